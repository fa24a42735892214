import PyProof.Rows.All
import Wide.All
import OpenK.AllK
import Wide.FinOn
import HandS.ForMost
import HandS.ForExc
import HandS.Zip
import HandS.TupAny
import HandS.TupMul
import HandS.TupLe
import HandS.Style
import HandS.Conv
import HandS.More
import HandS.Deep
import KE.KEqNest
import KE.DataEq
import HandS.TupLen
import HandS.SortInts
import KE.GoesEnum
import PyProof.Rows.FactsT1
import PyProof.Rows.FactsT2
import PyProof.Rows.FactsT3
import PyProof.Rows.SeqGen
import PyProof.Rows.SeqCalls
import HandS.ExcInit
import HandS.ExcIs
import HandS.WordsExc
import HandS.IsInst
import KE.KDictPairs
import PyProof.NeKinds
import KE.KEqDict
import KE.KDictCopyH
import KE.KIndexOf
import HandS.Defaults
import PySem.Challenge.RW_guesshush_k01_programs
set_option Elab.async false
set_option linter.all false
set_option maxRecDepth 100000
set_option maxHeartbeats 4000000
/-! Mi1: data without addresses, what represents it, growing heaps, readings of expressions by data. -/
namespace Mi
open PySem PySem.Spec PyProof.Rows L2

inductive D where
  | non | bl (b : Bool) | int (i : Int) | str (x : Str) | ty (n : String)
  | tup (xs : List D) | lst (xs : List D) | sl (xs : List D) | kt (xs : List D)
  | dK (kvs : List (Key × D)) | dT (kvs : List (List Key × D))
  | ob (n : Str) (fs : List (Str × D))

/-! ### heaps that grow -/
def Ex (H H' : Hp) : Prop := ∀ a o, H a = some o → H' a = some o
theorem Ex.refl (H : Hp) : Ex H H := fun _ _ h => h
theorem Ex.trans {H H1 H2 : Hp} (a : Ex H H1) (b : Ex H1 H2) : Ex H H2 := fun x o h => b x o (a x o h)
theorem Ex.new {H : Hp} {p : Addr} {o : HO} (h : H p = none) : Ex H (upd H p o) := fun a u e => by
  rw [upd_ne (ne_of_none e h)]
  exact e
theorem Ex.free {H H' : Hp} {p : Addr} (e : Ex H H') (h : H' p = none) : H p = none := by
  cases h1 : H p with
  | none => rfl
  | some o =>
    rw [e p o h1] at h
    cases h
theorem Ex.rd {H H' : Hp} {a : Addr} {u : HO} (e : Ex H H') (h : Rd H a u) : Rd H' a u := by
  rcases h with h | ⟨o, h⟩
  · exact .inl (e a _ h)
  · exact .inr ⟨o, e a _ h⟩
theorem Ex.l {K : PySem.W.Frag} {H H' : Hp} {a : Addr} {xs : List V} (e : Ex H H') (h : SqL K H a xs) : SqL K H' a xs := by
  rcases h with h | h
  · exact .inl (e.rd h)
  · exact .inr h
theorem Ex.t {K : PySem.W.Frag} {H H' : Hp} {a : Addr} {xs : List V} (e : Ex H H') (h : SqT K H a xs) : SqT K H' a xs := by
  rcases h with h | h
  · exact .inl (e.rd h)
  · exact .inr h
/-- the foot F, the heap H; both grow, what stood beyond the foot stays beyond it -/
structure Gr (F H F' H' : Hp) : Prop where
  f0 : Ex F H
  ff : Ex F F'
  hh : Ex H H'
  fh : Ex F' H'
  fr : ∀ a o, H a = some o → F' a = F a
theorem Gr.refl {F H : Hp} (e : Ex F H) : Gr F H F H := ⟨e, .refl _, .refl _, e, fun _ _ _ => rfl⟩
theorem Gr.trans {F H F1 H1 F2 H2 : Hp} (a : Gr F H F1 H1) (b : Gr F1 H1 F2 H2) : Gr F H F2 H2 :=
  ⟨a.f0, a.ff.trans b.ff, a.hh.trans b.hh, b.fh, fun x o h => (b.fr x o (a.hh x o h)).trans (a.fr x o h)⟩
/-- beyond the foot -/
theorem Gr.off {F H : Hp} {p : Addr} {o : HO} (e : Ex F H) (h : H p = none) : Gr F H F (upd H p o) :=
  ⟨e, .refl _, .new h, e.trans (.new h), fun _ _ _ => rfl⟩
theorem Ex.into {F H : Hp} {p : Addr} {o : HO} (e : Ex F H) (h : H p = some o) : Ex (upd F p o) H := fun a u q => by
  by_cases z : a = p
  · subst z
    rw [upd_same] at q
    rw [h]
    exact q
  · rw [upd_ne z] at q
    exact e a u q
/-- what stands beyond the foot, and was not there, is taken in -/
theorem Gr.take {F H F' H' : Hp} {p : Addr} {o : HO} (g : Gr F H F' H') (h : H p = none) (h1 : F' p = none) (h' : H' p = some o) : Gr F H (upd F' p o) H' :=
  ⟨g.f0, g.ff.trans (.new h1), g.hh, g.fh.into h', fun a u q => by
    rw [upd_ne (ne_of_none q h)]
    exact g.fr a u q⟩
theorem Gr.new {F H : Hp} {p : Addr} {o : HO} (e : Ex F H) (h : H p = none) : Gr F H (upd F p o) (upd H p o) :=
  (Gr.off e h).take h (e.free h) upd_same

/-! ### what represents data -/
/-- a tuple that is known to have no dict -/
def TD (K : PySem.W.Frag) (H : Hp) (a : Addr) : Prop := (∃ o : Obj, K.lookup a = some o ∧ o.cls = .type "tuple" ∧ o.dict = none) ∨ ∃ (o : Obj) (xs : List V), H a = some (.frz o (.tup xs)) ∧ o.cls = .type "tuple" ∧ o.dict = none
theorem TD.m {K : PySem.W.Frag} {F H : Hp} {a : Addr} (e : Ex F H) (h : TD K F a) : TD K H a := by
  rcases h with h | ⟨o, xs, h1, h2⟩
  · exact .inl h
  · exact .inr ⟨o, xs, e _ _ h1, h2⟩
/-- the fields' names that the classes of data do not have -/
def obF : List Str := ["plain", "notes", "guesses", "before", "kind", "since"]
/-- the class n of data stands at C -/
def ObC (K : PySem.W.Frag) (n : Str) (C : Addr) : Prop := PySem.W.nsIn K mainGlobals n = some (some (.ref C)) ∧ Cls K C ∧ ∀ f ∈ obF, NoAttr K C f
mutual
def Rep (K : PySem.W.Frag) (H : Hp) : D → V → Prop
  | .non, v => v = .non
  | .bl b, v => v = .bl b
  | .int i, v => v = .int i
  | .str x, v => v = .str x
  | .ty n, v => v = .ty n
  | .tup ds, v => ∃ a vs, v = .ref a ∧ H a = some (.tup vs) ∧ Reps K H ds vs
  | .sl ds, v => ∃ a vs, v = .ref a ∧ SqL K H a vs ∧ Reps K H ds vs
  | .kt ds, v => ∃ a vs, v = .ref a ∧ SqT K H a vs ∧ TD K H a ∧ Reps K H ds vs
  | .lst ds, v => ∃ a vs, v = .ref a ∧ H a = some (.lst vs) ∧ Reps K H ds vs
  | .dK ps, v => ∃ a vs, v = .ref a ∧ H a = some (.dK vs) ∧ RepK K H ps vs
  | .dT ps, v => ∃ a vs, v = .ref a ∧ H a = some (.dT vs) ∧ RepT K H ps vs
  | .ob n fs, v => ∃ a C dx vs, v = .ref a ∧ H a = some (.ins C dx vs) ∧ ObC K n C ∧ RepF K H fs vs
def Reps (K : PySem.W.Frag) (H : Hp) : List D → List V → Prop
  | [], vs => vs = []
  | d :: ds, vs => ∃ v r, vs = v :: r ∧ Rep K H d v ∧ Reps K H ds r
def RepK (K : PySem.W.Frag) (H : Hp) : List (Key × D) → List (Key × V) → Prop
  | [], vs => vs = []
  | (k, d) :: ps, vs => ∃ v r, vs = (k, v) :: r ∧ Rep K H d v ∧ RepK K H ps r
def RepT (K : PySem.W.Frag) (H : Hp) : List (List Key × D) → List (List Key × V) → Prop
  | [], vs => vs = []
  | (k, d) :: ps, vs => ∃ v r, vs = (k, v) :: r ∧ Rep K H d v ∧ RepT K H ps r
def RepF (K : PySem.W.Frag) (H : Hp) : List (Str × D) → List (Str × V) → Prop
  | [], vs => vs = []
  | (k, d) :: ps, vs => ∃ v r, vs = (k, v) :: r ∧ Rep K H d v ∧ RepF K H ps r
end
section
variable {K : PySem.W.Frag} {H H' : Hp}
mutual
theorem Rep.mono (e : Ex H H') : ∀ (d : D) (v : V), Rep K H d v → Rep K H' d v
  | .non, _, h | .bl _, _, h | .int _, _, h | .str _, _, h | .ty _, _, h => by unfold Rep at h ⊢; exact h
  | .tup ds, _, h => by
    unfold Rep at h ⊢
    obtain ⟨a, vs, e1, e2, e3⟩ := h
    exact ⟨a, vs, e1, e a _ e2, Reps.mono e ds vs e3⟩
  | .sl ds, _, h => by
    unfold Rep at h ⊢
    obtain ⟨a, vs, e1, e2, e3⟩ := h
    exact ⟨a, vs, e1, e.l e2, Reps.mono e ds vs e3⟩
  | .kt ds, _, h => by
    unfold Rep at h ⊢
    obtain ⟨a, vs, e1, e2, e4, e3⟩ := h
    exact ⟨a, vs, e1, e.t e2, e4.m e, Reps.mono e ds vs e3⟩
  | .lst ds, _, h => by
    unfold Rep at h ⊢
    obtain ⟨a, vs, e1, e2, e3⟩ := h
    exact ⟨a, vs, e1, e a _ e2, Reps.mono e ds vs e3⟩
  | .dK ps, _, h => by
    unfold Rep at h ⊢
    obtain ⟨a, vs, e1, e2, e3⟩ := h
    exact ⟨a, vs, e1, e a _ e2, RepK.mono e ps vs e3⟩
  | .dT ps, _, h => by
    unfold Rep at h ⊢
    obtain ⟨a, vs, e1, e2, e3⟩ := h
    exact ⟨a, vs, e1, e a _ e2, RepT.mono e ps vs e3⟩
  | .ob n fs, _, h => by
    unfold Rep at h ⊢
    obtain ⟨a, C, dx, vs, e1, e2, e4, e3⟩ := h
    exact ⟨a, C, dx, vs, e1, e a _ e2, e4, RepF.mono e fs vs e3⟩
theorem Reps.mono (e : Ex H H') : ∀ (ds : List D) (vs : List V), Reps K H ds vs → Reps K H' ds vs
  | [], _, h => by unfold Reps at h ⊢; exact h
  | d :: ds, _, h => by
    unfold Reps at h ⊢
    obtain ⟨v, r, e1, e2, e3⟩ := h
    exact ⟨v, r, e1, Rep.mono e d v e2, Reps.mono e ds r e3⟩
theorem RepK.mono (e : Ex H H') : ∀ (ps : List (Key × D)) (vs : List (Key × V)), RepK K H ps vs → RepK K H' ps vs
  | [], _, h => by unfold RepK at h ⊢; exact h
  | (k, d) :: ps, _, h => by
    unfold RepK at h ⊢
    obtain ⟨v, r, e1, e2, e3⟩ := h
    exact ⟨v, r, e1, Rep.mono e d v e2, RepK.mono e ps r e3⟩
theorem RepT.mono (e : Ex H H') : ∀ (ps : List (List Key × D)) (vs : List (List Key × V)), RepT K H ps vs → RepT K H' ps vs
  | [], _, h => by unfold RepT at h ⊢; exact h
  | (k, d) :: ps, _, h => by
    unfold RepT at h ⊢
    obtain ⟨v, r, e1, e2, e3⟩ := h
    exact ⟨v, r, e1, Rep.mono e d v e2, RepT.mono e ps r e3⟩
theorem RepF.mono (e : Ex H H') : ∀ (ps : List (Str × D)) (vs : List (Str × V)), RepF K H ps vs → RepF K H' ps vs
  | [], _, h => by unfold RepF at h ⊢; exact h
  | (k, d) :: ps, _, h => by
    unfold RepF at h ⊢
    obtain ⟨v, r, e1, e2, e3⟩ := h
    exact ⟨v, r, e1, Rep.mono e d v e2, RepF.mono e ps r e3⟩
end
theorem Rep.m {d : D} {v : V} (h : Rep K H d v) (e : Ex H H') : Rep K H' d v := Rep.mono e d v h
theorem Reps.m {d : List D} {v : List V} (h : Reps K H d v) (e : Ex H H') : Reps K H' d v := Reps.mono e d v h
theorem rep_non {v : V} : Rep K H .non v ↔ v = .non := by unfold Rep; exact Iff.rfl
theorem rep_bl {v : V} {b : Bool} : Rep K H (.bl b) v ↔ v = .bl b := by unfold Rep; exact Iff.rfl
theorem rep_int {v : V} {i : Int} : Rep K H (.int i) v ↔ v = .int i := by unfold Rep; exact Iff.rfl
theorem rep_str {v : V} {x : Str} : Rep K H (.str x) v ↔ v = .str x := by unfold Rep; exact Iff.rfl
theorem rep_ty {v : V} {x : String} : Rep K H (.ty x) v ↔ v = .ty x := by unfold Rep; exact Iff.rfl
theorem rep_tup {v : V} {ds : List D} : Rep K H (.tup ds) v ↔ ∃ a vs, v = .ref a ∧ H a = some (.tup vs) ∧ Reps K H ds vs := by conv => lhs; unfold Rep
theorem rep_sl {v : V} {ds : List D} : Rep K H (.sl ds) v ↔ ∃ a vs, v = .ref a ∧ SqL K H a vs ∧ Reps K H ds vs := by conv => lhs; unfold Rep
theorem rep_kt {v : V} {ds : List D} : Rep K H (.kt ds) v ↔ ∃ a vs, v = .ref a ∧ SqT K H a vs ∧ TD K H a ∧ Reps K H ds vs := by conv => lhs; unfold Rep
theorem rep_ktl {v : V} {ds : List D} (h : Rep K H (.kt ds) v) : ∃ a vs, v = .ref a ∧ SqT K H a vs ∧ Reps K H ds vs := by
  obtain ⟨a, vs, h1, h2, _, h3⟩ := rep_kt.mp h
  exact ⟨a, vs, h1, h2, h3⟩
theorem rep_lst {v : V} {ds : List D} : Rep K H (.lst ds) v ↔ ∃ a vs, v = .ref a ∧ H a = some (.lst vs) ∧ Reps K H ds vs := by conv => lhs; unfold Rep
theorem rep_dK {v : V} {ps : List (Key × D)} : Rep K H (.dK ps) v ↔ ∃ a vs, v = .ref a ∧ H a = some (.dK vs) ∧ RepK K H ps vs := by conv => lhs; unfold Rep
theorem rep_dT {v : V} {ps : List (List Key × D)} : Rep K H (.dT ps) v ↔ ∃ a vs, v = .ref a ∧ H a = some (.dT vs) ∧ RepT K H ps vs := by conv => lhs; unfold Rep
theorem rep_ob {v : V} {n : Str} {fs : List (Str × D)} : Rep K H (.ob n fs) v ↔ ∃ a C dx vs, v = .ref a ∧ H a = some (.ins C dx vs) ∧ ObC K n C ∧ RepF K H fs vs := by conv => lhs; unfold Rep
theorem repF_nil {vs : List (Str × V)} : RepF K H [] vs ↔ vs = [] := by conv => lhs; unfold RepF
theorem repF_cons {k : Str} {d : D} {ds : List (Str × D)} {vs : List (Str × V)} : RepF K H ((k, d) :: ds) vs ↔ ∃ v r, vs = (k, v) :: r ∧ Rep K H d v ∧ RepF K H ds r := by conv => lhs; unfold RepF
theorem reps_nil {vs : List V} : Reps K H [] vs ↔ vs = [] := by conv => lhs; unfold Reps
theorem reps_cons {d : D} {ds : List D} {vs : List V} : Reps K H (d :: ds) vs ↔ ∃ v r, vs = v :: r ∧ Rep K H d v ∧ Reps K H ds r := by conv => lhs; unfold Reps
theorem repK_nil {vs : List (Key × V)} : RepK K H [] vs ↔ vs = [] := by conv => lhs; unfold RepK
theorem repK_cons {k : Key} {d : D} {ds : List (Key × D)} {vs : List (Key × V)} : RepK K H ((k, d) :: ds) vs ↔ ∃ v r, vs = (k, v) :: r ∧ Rep K H d v ∧ RepK K H ds r := by conv => lhs; unfold RepK
theorem repT_nil {vs : List (List Key × V)} : RepT K H [] vs ↔ vs = [] := by conv => lhs; unfold RepT
theorem repT_cons {k : List Key} {d : D} {ds : List (List Key × D)} {vs : List (List Key × V)} : RepT K H ((k, d) :: ds) vs ↔ ∃ v r, vs = (k, v) :: r ∧ Rep K H d v ∧ RepT K H ds r := by conv => lhs; unfold RepT
theorem Reps.nil : Reps K H [] [] := reps_nil.mpr rfl
theorem Reps.cons {d : D} {v : V} {ds : List D} {vs : List V} (h : Rep K H d v) (r : Reps K H ds vs) : Reps K H (d :: ds) (v :: vs) := reps_cons.mpr ⟨v, vs, rfl, h, r⟩
theorem Reps.len : ∀ {ds : List D} {vs : List V}, Reps K H ds vs → ds.length = vs.length
  | [], _, h => by rw [reps_nil] at h; subst h; rfl
  | _ :: _, _, h => by
    obtain ⟨v, r, rfl, _, t⟩ := reps_cons.mp h
    simp [t.len]
theorem Reps.get : ∀ {ds : List D} {vs : List V} {i : Nat} {d : D}, Reps K H ds vs → ds[i]? = some d → ∃ v, vs[i]? = some v ∧ Rep K H d v
  | [], _, _, _, _, e => by simp at e
  | d0 :: ds, _, 0, d, h, e => by
    obtain ⟨v, r, rfl, h1, t⟩ := reps_cons.mp h
    simp at e
    subst e
    exact ⟨v, by simp, h1⟩
  | d0 :: ds, _, i + 1, d, h, e => by
    obtain ⟨v, r, rfl, h1, t⟩ := reps_cons.mp h
    obtain ⟨v', h2, h3⟩ := t.get (i := i) (d := d) (by simpa using e)
    exact ⟨v', by simpa using h2, h3⟩
theorem Reps.get' {ds : List D} {vs : List V} {i : Nat} {v : V} (h : Reps K H ds vs) (e : vs[i]? = some v) : ∃ d, ds[i]? = some d ∧ Rep K H d v := by
  have hl := h.len
  have hi : i < ds.length := by
    have := (List.getElem?_eq_some_iff.mp e).1
    omega
  obtain ⟨v', h1, h2⟩ := h.get (List.getElem?_eq_getElem hi)
  rw [e] at h1
  cases h1
  exact ⟨_, List.getElem?_eq_getElem hi, h2⟩
theorem Reps.append : ∀ {ds es : List D} {vs us : List V}, Reps K H ds vs → Reps K H es us → Reps K H (ds ++ es) (vs ++ us)
  | [], _, _, _, h, q => by rw [reps_nil] at h; subst h; exact q
  | _ :: _, _, _, _, h, q => by
    obtain ⟨v, r, rfl, h1, t⟩ := reps_cons.mp h
    exact .cons h1 (t.append q)
theorem Reps.one {d : D} {v : V} (h : Rep K H d v) : Reps K H [d] [v] := .cons h .nil
theorem Reps.take : ∀ {ds : List D} {vs : List V} (n : Nat), Reps K H ds vs → Reps K H (ds.take n) (vs.take n)
  | _, _, 0, _ => by simp [Reps.nil]
  | [], _, n + 1, h => by rw [reps_nil] at h; subst h; simp [Reps.nil]
  | _ :: _, _, n + 1, h => by
    obtain ⟨v, r, rfl, h1, t⟩ := reps_cons.mp h
    exact .cons h1 (t.take n)
theorem Reps.drop : ∀ {ds : List D} {vs : List V} (n : Nat), Reps K H ds vs → Reps K H (ds.drop n) (vs.drop n)
  | _, _, 0, h => by simpa using h
  | [], _, n + 1, h => by rw [reps_nil] at h; subst h; simp [Reps.nil]
  | _ :: _, _, n + 1, h => by
    obtain ⟨v, r, rfl, h1, t⟩ := reps_cons.mp h
    exact t.drop n
theorem Reps.reverse : ∀ {ds : List D} {vs : List V}, Reps K H ds vs → Reps K H ds.reverse vs.reverse
  | [], _, h => by rw [reps_nil] at h; subst h; exact .nil
  | _ :: _, _, h => by
    obtain ⟨v, r, rfl, h1, t⟩ := reps_cons.mp h
    rw [List.reverse_cons, List.reverse_cons]
    exact t.reverse.append (.one h1)
theorem Reps.set {d : D} {v : V} (q : Rep K H d v) : ∀ {ds : List D} {vs : List V} (i : Nat), Reps K H ds vs → Reps K H (ds.set i d) (vs.set i v)
  | [], _, _, h => by rw [reps_nil] at h; subst h; exact .nil
  | _ :: _, _, 0, h => by
    obtain ⟨v, r, rfl, h1, t⟩ := reps_cons.mp h
    exact .cons q t
  | _ :: _, _, i + 1, h => by
    obtain ⟨v, r, rfl, h1, t⟩ := reps_cons.mp h
    exact .cons h1 (t.set q i)
theorem Reps.rep {ds : List D} {vs : List V} (n : Nat) (h : Reps K H ds vs) : Reps K H (List.replicate n ds).flatten (List.replicate n vs).flatten := by
  induction n with
  | zero => exact .nil
  | succ n ih =>
    rw [List.replicate_succ, List.replicate_succ, List.flatten_cons, List.flatten_cons]
    exact h.append ih
/-- ints, texts -/
theorem reps_ints : ∀ {ns : List Int} {vs : List V}, Reps K H (ns.map D.int) vs ↔ vs = ns.map V.int
  | [], vs => by simp [reps_nil]
  | n :: ns, vs => by
    simp only [List.map_cons, reps_cons, rep_int, reps_ints]
    constructor
    · rintro ⟨v, r, rfl, rfl, rfl⟩
      rfl
    · intro h
      exact ⟨_, _, h, rfl, rfl⟩
theorem reps_bls : ∀ {ns : List Bool} {vs : List V}, Reps K H (ns.map D.bl) vs ↔ vs = ns.map V.bl
  | [], vs => by simp [reps_nil]
  | n :: ns, vs => by
    simp only [List.map_cons, reps_cons, rep_bl, reps_bls]
    constructor
    · rintro ⟨v, r, rfl, rfl, rfl⟩
      rfl
    · intro h
      exact ⟨_, _, h, rfl, rfl⟩
theorem reps_strs : ∀ {ns : List Str} {vs : List V}, Reps K H (ns.map D.str) vs ↔ vs = ns.map V.str
  | [], vs => by simp [reps_nil]
  | n :: ns, vs => by
    simp only [List.map_cons, reps_cons, rep_str, reps_strs]
    constructor
    · rintro ⟨v, r, rfl, rfl, rfl⟩
      rfl
    · intro h
      exact ⟨_, _, h, rfl, rfl⟩
end

/-! ### readings by data -/
abbrev E := List (Option D)
abbrev FE := E → Option D
structure RE (K : PySem.W.Frag) (F : Hp) (σ : L2.St) (ρ : E) : Prop where
  len : ρ.length = σ.length
  at_ : ∀ (i : Nat) (d : D), ρ[i]? = some (some d) → ∃ v, σ[i]? = some (some v) ∧ Rep K F d v
theorem RE.m {K : PySem.W.Frag} {F F' : Hp} {σ : L2.St} {ρ : E} (h : RE K F σ ρ) (e : Ex F F') : RE K F' σ ρ := ⟨h.len, fun i d q => by
  obtain ⟨v, h1, h2⟩ := h.at_ i d q
  exact ⟨v, h1, h2.m e⟩⟩
def SemE (K : PySem.W.Frag) (t : TE) (f : FE) : Prop := ∀ F H σ ρ, Ex F H → RE K F σ ρ → ∀ d, f ρ = some d → ∀ Q : VK, (∀ v F' H', Gr F H F' H' → Rep K F' d v → Q v H') → t σ H Q
def SemT (K : PySem.W.Frag) (t : TT) (f : E → Option Bool) : Prop := ∀ F H σ ρ, Ex F H → RE K F σ ρ → ∀ d, f ρ = some d → ∀ Q : Bool → Hp → Prop, (∀ F' H', Gr F H F' H' → Q d H') → t σ H Q
def SemA (K : PySem.W.Frag) (t : TA) (f : E → Option (List D)) : Prop := ∀ F H σ ρ, Ex F H → RE K F σ ρ → ∀ d, f ρ = some d → ∀ Q : List V → Hp → Prop, (∀ v F' H', Gr F H F' H' → Reps K F' d v → Q v H') → t σ H Q
def SemO (K : PySem.W.Frag) (t : TO) (f : E → Option (Option Int)) : Prop := ∀ F H σ ρ, Ex F H → RE K F σ ρ → ∀ d, f ρ = some d → ∀ Q : Option Int → Hp → Prop, (∀ F' H', Gr F H F' H' → Q d H') → t σ H Q
/-- a new object beyond the foot -/
inductive O where
  | l (xs : List D) | k (kvs : List (Key × D)) | t (kvs : List (List Key × D))
def O.d : O → D
  | .l xs => .lst xs
  | .k xs => .dK xs
  | .t xs => .dT xs
def RepO (K : PySem.W.Frag) (F : Hp) : O → HO → Prop
  | .l ds, h => ∃ vs, h = .lst vs ∧ Reps K F ds vs
  | .k ds, h => ∃ vs, h = .dK vs ∧ RepK K F ds vs
  | .t ds, h => ∃ vs, h = .dT vs ∧ RepT K F ds vs
theorem RepO.m {K : PySem.W.Frag} {F F' : Hp} {o : O} {h : HO} (r : RepO K F o h) (e : Ex F F') : RepO K F' o h := by
  cases o with
  | l xs => obtain ⟨vs, e1, e2⟩ := r; exact ⟨vs, e1, Reps.mono e _ _ e2⟩
  | k xs => obtain ⟨vs, e1, e2⟩ := r; exact ⟨vs, e1, RepK.mono e _ _ e2⟩
  | t xs => obtain ⟨vs, e1, e2⟩ := r; exact ⟨vs, e1, RepT.mono e _ _ e2⟩
theorem RepO.rep {K : PySem.W.Frag} {F : Hp} {o : O} {h : HO} {p : Addr} (r : RepO K F o h) (e : F p = none) : Rep K (upd F p h) o.d (.ref p) := by
  have r := r.m (Ex.new (o := h) e)
  cases o with
  | l xs => obtain ⟨vs, rfl, e2⟩ := r; exact rep_lst.mpr ⟨p, vs, rfl, upd_same, e2⟩
  | k xs => obtain ⟨vs, rfl, e2⟩ := r; exact rep_dK.mpr ⟨p, vs, rfl, upd_same, e2⟩
  | t xs => obtain ⟨vs, rfl, e2⟩ := r; exact rep_dT.mpr ⟨p, vs, rfl, upd_same, e2⟩
def SemN (K : PySem.W.Frag) (t : TE) (f : E → Option O) : Prop := ∀ F H σ ρ, Ex F H → RE K F σ ρ → ∀ d, f ρ = some d → ∀ Q : VK, (∀ p h F' H', Gr F H F' H' → H p = none → F' p = none → H' p = some h → RepO K F' d h → Q (.ref p) H') → t σ H Q
theorem SemN.e {K : PySem.W.Frag} {t : TE} {f : E → Option O} (s : SemN K t f) : SemE K t (fun ρ => (f ρ).map O.d) := fun F H σ ρ e r d h Q q => by
  obtain ⟨o, h1, rfl⟩ := Option.map_eq_some_iff.mp h
  exact s F H σ ρ e r o h1 Q fun p h F' H' g n1 n2 a b => q _ _ _ (g.take n1 n2 a) (b.rep n2)

/-! values in, values out -/
def Lf2 (K : PySem.W.Frag) (r : R2) (g : D → D → Option D) : Prop := ∀ F H a b x y, Ex F H → Rep K F a x → Rep K F b y → ∀ d, g a b = some d → ∀ Q : VK, (∀ v F' H', Gr F H F' H' → Rep K F' d v → Q v H') → r x y H Q
def Lf1 (K : PySem.W.Frag) (r : V → Hp → VK → Prop) (g : D → Option D) : Prop := ∀ F H a x, Ex F H → Rep K F a x → ∀ d, g a = some d → ∀ Q : VK, (∀ v F' H', Gr F H F' H' → Rep K F' d v → Q v H') → r x H Q
def LfC (K : PySem.W.Frag) (r : List V → Hp → VK → Prop) (g : List D → Option D) : Prop := ∀ F H a x, Ex F H → Reps K F a x → ∀ d, g a = some d → ∀ Q : VK, (∀ v F' H', Gr F H F' H' → Rep K F' d v → Q v H') → r x H Q
def LfCN (K : PySem.W.Frag) (r : List V → Hp → VK → Prop) (g : List D → Option O) : Prop := ∀ F H a x, Ex F H → Reps K F a x → ∀ d, g a = some d → ∀ Q : VK, (∀ p h F' H', Gr F H F' H' → H p = none → F' p = none → H' p = some h → RepO K F' d h → Q (.ref p) H') → r x H Q
def Lf2N (K : PySem.W.Frag) (r : R2) (g : D → D → Option O) : Prop := ∀ F H a b x y, Ex F H → Rep K F a x → Rep K F b y → ∀ d, g a b = some d → ∀ Q : VK, (∀ p h F' H', Gr F H F' H' → H p = none → F' p = none → H' p = some h → RepO K F' d h → Q (.ref p) H') → r x y H Q

/-! the functions -/
def eVar (i : Nat) : FE := fun ρ => (ρ[i]?).bind id
def eC (d : D) : FE := fun _ => some d
def e2 (g : D → D → Option D) (fa fb : FE) : FE := fun ρ => (fa ρ).bind fun a => (fb ρ).bind fun b => g a b
def e1 (g : D → Option D) (fa : FE) : FE := fun ρ => (fa ρ).bind g
def eN2 (g : D → D → Option O) (fa fb : FE) : E → Option O := fun ρ => (fa ρ).bind fun a => (fb ρ).bind fun b => g a b
def aNil : E → Option (List D) := fun _ => some []
def aCons (fa : FE) (fr : E → Option (List D)) : E → Option (List D) := fun ρ => (fa ρ).bind fun a => (fr ρ).bind fun r => some (a :: r)
def eA (g : List D → Option D) (fa : E → Option (List D)) : FE := fun ρ => (fa ρ).bind g
def eNA (g : List D → Option O) (fa : E → Option (List D)) : E → Option O := fun ρ => (fa ρ).bind g
def D.b? : D → Option Bool
  | .bl b => some b
  | _ => none
def D.i? : D → Option Int
  | .int b => some b
  | _ => none
def tB (fa : FE) : E → Option Bool := fun ρ => (fa ρ).bind D.b?
def fAnd (fa fb : E → Option Bool) : E → Option Bool := fun ρ => (fa ρ).bind fun b => if b then fb ρ else some false
def fOr (fa fb : E → Option Bool) : E → Option Bool := fun ρ => (fa ρ).bind fun b => if b then some true else fb ρ
def fNot (fa : E → Option Bool) : E → Option Bool := fun ρ => (fa ρ).bind fun b => some (!b)
def fAndV (fa fb : FE) : FE := fun ρ => (fa ρ).bind fun a => a.b?.bind fun b => if b then fb ρ else some (.bl false)
def fOrV (fa fb : FE) : FE := fun ρ => (fa ρ).bind fun a => a.b?.bind fun b => if b then some (.bl true) else fb ρ
def fNotV (fa : FE) : FE := fun ρ => (fa ρ).bind fun a => a.b?.bind fun b => some (.bl (!b))
def fIf (fc : E → Option Bool) (fa fb : FE) : FE := fun ρ => (fc ρ).bind fun b => if b then fa ρ else fb ρ
def fTup (fa : E → Option (List D)) : FE := fun ρ => (fa ρ).bind fun xs => if xs.length ≤ 100000 then some (.tup xs) else none
def fLst (fa : E → Option (List D)) : E → Option O := fun ρ => (fa ρ).bind fun xs => if xs.length ≤ 100000 then some (.l xs) else none
def fChain (g g' : D → D → Option D) (fa fb fc : FE) : FE := fun ρ => (fa ρ).bind fun a => (fb ρ).bind fun b => (g a b).bind fun z => z.b?.bind fun k => if k then (fc ρ).bind fun c => g' b c else some (.bl false)

theorem rep_b {K : PySem.W.Frag} {H : Hp} {d : D} {b : Bool} {v : V} (h : Rep K H d v) (e : d.b? = some b) : v = .bl b := by
  cases d <;> simp only [D.b?, Option.some.injEq, reduceCtorEq] at e
  subst e
  exact rep_bl.mp h
theorem sz_of {n : Nat} (h : n ≤ 100000) : n ≤ sizeLine := Nat.le_trans h (by decide)
theorem sz_lt {n : Nat} (h : n < 100000) : n < sizeLine := Nat.lt_of_lt_of_le h (by decide)

section
variable {K : PySem.W.Frag} {ta tb tc te : TE} {fa fb fc : FE} {r r' : R2} {g g' : D → D → Option D} {t u : TT} {tg ug : E → Option Bool}
theorem sem_var {i : Nat} : SemE K (tVar i) (eVar i) := fun F H σ ρ e r d h Q q => by
  unfold eVar at h
  cases h1 : ρ[i]? with
  | none => rw [h1] at h; cases h
  | some o =>
    rw [h1] at h
    have h : o = some d := h
    subst h
    obtain ⟨v, e1, e2⟩ := r.at_ i d h1
    exact ⟨v, e1, q v F H (.refl e) e2⟩
theorem sem_c {v : V} {d : D} (h : ∀ F, Rep K F d v) : SemE K (tC v) (eC d) := fun F H σ ρ e r d' h' Q q => by
  cases h'
  exact q v F H (.refl e) (h F)
theorem sem_op (ha : SemE K ta fa) (hb : SemE K tb fb) (L : Lf2 K r g) : SemE K (tOp r ta tb) (e2 g fa fb) := fun F H σ ρ e re d h Q q => by
  obtain ⟨a, h1, h⟩ := Option.bind_eq_some_iff.mp h
  obtain ⟨b, h2, h3⟩ := Option.bind_eq_some_iff.mp h
  refine ha F H σ ρ e re a h1 _ fun x F1 H1 g1 r1 => ?_
  refine hb F1 H1 σ ρ g1.fh (re.m g1.ff) b h2 _ fun y F2 H2 g2 r2 => ?_
  exact L F2 H2 a b x y g2.fh (r1.m g2.ff) r2 d h3 Q fun v F3 H3 g3 r3 => q v F3 H3 ((g1.trans g2).trans g3) r3
theorem sem_opN {g : D → D → Option O} (ha : SemE K ta fa) (hb : SemE K tb fb) (L : Lf2N K r g) : SemN K (tOp r ta tb) (eN2 g fa fb) := fun F H σ ρ e re d h Q q => by
  obtain ⟨a, h1, h⟩ := Option.bind_eq_some_iff.mp h
  obtain ⟨b, h2, h3⟩ := Option.bind_eq_some_iff.mp h
  refine ha F H σ ρ e re a h1 _ fun x F1 H1 g1 r1 => ?_
  refine hb F1 H1 σ ρ g1.fh (re.m g1.ff) b h2 _ fun y F2 H2 g2 r2 => ?_
  exact L F2 H2 a b x y g2.fh (r1.m g2.ff) r2 d h3 Q fun p h F3 H3 g3 n1 n2 a b => q p h F3 H3 ((g1.trans g2).trans g3) ((g1.trans g2).hh.free n1) n2 a b
theorem sem_un {r : V → Hp → VK → Prop} {g : D → Option D} (ha : SemE K ta fa) (L : Lf1 K r g) : SemE K (tUn r ta) (e1 g fa) := fun F H σ ρ e re d h Q q => by
  obtain ⟨a, h1, h3⟩ := Option.bind_eq_some_iff.mp h
  refine ha F H σ ρ e re a h1 _ fun x F1 H1 g1 r1 => ?_
  exact L F1 H1 a x g1.fh r1 d h3 Q fun v F3 H3 g3 r3 => q v F3 H3 (g1.trans g3) r3
theorem sem_nil : SemA K tNil aNil := fun F H σ ρ e re d h Q q => by
  cases h
  exact q [] F H (.refl e) .nil
theorem sem_cons {tr : TA} {fr : E → Option (List D)} (ha : SemE K ta fa) (hr : SemA K tr fr) : SemA K (tCons ta tr) (aCons fa fr) := fun F H σ ρ e re d h Q q => by
  obtain ⟨a, h1, h⟩ := Option.bind_eq_some_iff.mp h
  obtain ⟨b, h2, h3⟩ := Option.bind_eq_some_iff.mp h
  cases h3
  refine ha F H σ ρ e re a h1 _ fun x F1 H1 g1 r1 => ?_
  refine hr F1 H1 σ ρ g1.fh (re.m g1.ff) b h2 _ fun y F2 H2 g2 r2 => ?_
  exact q _ F2 H2 (g1.trans g2) (.cons (r1.m g2.ff) r2)
theorem sem_tup {t : TA} {f : E → Option (List D)} (h : SemA K t f) : SemE K (tTup t) (fTup f) := fun F H σ ρ e re d hd Q q => by
  obtain ⟨xs, h1, h2⟩ := Option.bind_eq_some_iff.mp hd
  split at h2
  · rename_i hl
    cases h2
    refine h F H σ ρ e re xs h1 _ fun vs F1 H1 g1 r1 => ⟨by rw [← r1.len]; exact sz_of hl, fun p hp => ?_⟩
    exact q _ _ _ (g1.trans (.new g1.fh hp)) (rep_tup.mpr ⟨p, vs, rfl, upd_same, r1.m (.new (g1.fh.free hp))⟩)
  · cases h2
theorem sem_lst {t : TA} {f : E → Option (List D)} (h : SemA K t f) : SemN K (tLst t) (fLst f) := fun F H σ ρ e re d hd Q q => by
  obtain ⟨xs, h1, h2⟩ := Option.bind_eq_some_iff.mp hd
  split at h2
  · rename_i hl
    cases h2
    refine h F H σ ρ e re xs h1 _ fun vs F1 H1 g1 r1 => ⟨by rw [← r1.len]; exact sz_of hl, fun p hp => ?_⟩
    exact q _ _ F1 _ (g1.trans (.off g1.fh hp)) (g1.hh.free hp) (g1.fh.free hp) upd_same ⟨vs, rfl, r1⟩
  · cases h2
theorem sem_callB {r : List V → Hp → VK → Prop} {g : List D → Option D} {t : TA} {f : E → Option (List D)} (h : SemA K t f) (L : LfC K r g) : SemE K (tCB r t) (eA g f) := fun F H σ ρ e re d hd Q q => by
  obtain ⟨a, h1, h3⟩ := Option.bind_eq_some_iff.mp hd
  refine h F H σ ρ e re a h1 _ fun x F1 H1 g1 r1 => ?_
  exact L F1 H1 a x g1.fh r1 d h3 Q fun v F3 H3 g3 r3 => q v F3 H3 (g1.trans g3) r3
theorem sem_callBN {r : List V → Hp → VK → Prop} {g : List D → Option O} {t : TA} {f : E → Option (List D)} (h : SemA K t f) (L : LfCN K r g) : SemN K (tCB r t) (eNA g f) := fun F H σ ρ e re d hd Q q => by
  obtain ⟨a, h1, h3⟩ := Option.bind_eq_some_iff.mp hd
  refine h F H σ ρ e re a h1 _ fun x F1 H1 g1 r1 => ?_
  exact L F1 H1 a x g1.fh r1 d h3 Q fun p h F3 H3 g3 n1 n2 a b => q p h F3 H3 (g1.trans g3) (g1.hh.free n1) n2 a b
theorem sem_test (h : SemE K ta fa) : SemT K (tTest ta) (tB fa) := fun F H σ ρ e re d hd Q q => by
  obtain ⟨a, h1, h3⟩ := Option.bind_eq_some_iff.mp hd
  refine h F H σ ρ e re a h1 _ fun x F1 H1 g1 r1 => ⟨d, rep_b r1 h3, q F1 H1 g1⟩
theorem sem_B (h : SemE K ta fa) : SemT K (L2.tB ta) (tB fa) := fun F H σ ρ e re d hd Q q => by
  obtain ⟨a, h1, h3⟩ := Option.bind_eq_some_iff.mp hd
  refine h F H σ ρ e re a h1 _ fun x F1 H1 g1 r1 => ⟨d, rep_b r1 h3, q F1 H1 g1⟩
theorem sem_and (h1 : SemT K t tg) (h2 : SemT K u ug) : SemT K (tAnd t u) (fAnd tg ug) := fun F H σ ρ e re d hd Q q => by
  obtain ⟨a, e1, e3⟩ := Option.bind_eq_some_iff.mp hd
  refine h1 F H σ ρ e re a e1 _ fun F1 H1 g1 => ?_
  cases a with
  | true => exact h2 F1 H1 σ ρ g1.fh (re.m g1.ff) d e3 Q fun F2 H2 g2 => q F2 H2 (g1.trans g2)
  | false => cases e3; exact q F1 H1 g1
theorem sem_or (h1 : SemT K t tg) (h2 : SemT K u ug) : SemT K (tOr t u) (fOr tg ug) := fun F H σ ρ e re d hd Q q => by
  obtain ⟨a, e1, e3⟩ := Option.bind_eq_some_iff.mp hd
  refine h1 F H σ ρ e re a e1 _ fun F1 H1 g1 => ?_
  cases a with
  | false => exact h2 F1 H1 σ ρ g1.fh (re.m g1.ff) d e3 Q fun F2 H2 g2 => q F2 H2 (g1.trans g2)
  | true => cases e3; exact q F1 H1 g1
theorem sem_not (h1 : SemT K t tg) : SemT K (tNot t) (fNot tg) := fun F H σ ρ e re d hd Q q => by
  obtain ⟨a, e1, e3⟩ := Option.bind_eq_some_iff.mp hd
  cases e3
  exact h1 F H σ ρ e re a e1 _ fun F1 H1 g1 => q F1 H1 g1
theorem sem_andV (h1 : SemE K ta fa) (h2 : SemE K tb fb) : SemE K (tAndV ta tb) (fAndV fa fb) := fun F H σ ρ e re d hd Q q => by
  obtain ⟨a, e1, e3⟩ := Option.bind_eq_some_iff.mp hd
  obtain ⟨b, e4, e5⟩ := Option.bind_eq_some_iff.mp e3
  refine h1 F H σ ρ e re a e1 _ fun x F1 H1 g1 r1 => ⟨b, rep_b r1 e4, ?_⟩
  cases b with
  | true => exact h2 F1 H1 σ ρ g1.fh (re.m g1.ff) d e5 Q fun v F2 H2 g2 => q v F2 H2 (g1.trans g2)
  | false => cases e5; exact q _ F1 H1 g1 (rep_bl.mpr rfl)
theorem sem_orV (h1 : SemE K ta fa) (h2 : SemE K tb fb) : SemE K (tOrV ta tb) (fOrV fa fb) := fun F H σ ρ e re d hd Q q => by
  obtain ⟨a, e1, e3⟩ := Option.bind_eq_some_iff.mp hd
  obtain ⟨b, e4, e5⟩ := Option.bind_eq_some_iff.mp e3
  refine h1 F H σ ρ e re a e1 _ fun x F1 H1 g1 r1 => ⟨b, rep_b r1 e4, ?_⟩
  cases b with
  | false => exact h2 F1 H1 σ ρ g1.fh (re.m g1.ff) d e5 Q fun v F2 H2 g2 => q v F2 H2 (g1.trans g2)
  | true => cases e5; exact q _ F1 H1 g1 (rep_bl.mpr rfl)
theorem sem_notV (h1 : SemE K ta fa) : SemE K (tNotV ta) (fNotV fa) := fun F H σ ρ e re d hd Q q => by
  obtain ⟨a, e1, e3⟩ := Option.bind_eq_some_iff.mp hd
  obtain ⟨b, e4, e5⟩ := Option.bind_eq_some_iff.mp e3
  cases e5
  exact h1 F H σ ρ e re a e1 _ fun x F1 H1 g1 r1 => ⟨b, rep_b r1 e4, q _ F1 H1 g1 (rep_bl.mpr rfl)⟩
theorem sem_if (h1 : SemT K t tg) (ha : SemE K ta fa) (hb : SemE K tb fb) : SemE K (tIf t ta tb) (fIf tg fa fb) := fun F H σ ρ e re d hd Q q => by
  obtain ⟨a, e1, e3⟩ := Option.bind_eq_some_iff.mp hd
  refine h1 F H σ ρ e re a e1 _ fun F1 H1 g1 => ?_
  cases a with
  | false => exact hb F1 H1 σ ρ g1.fh (re.m g1.ff) d e3 Q fun v F2 H2 g2 => q v F2 H2 (g1.trans g2)
  | true => exact ha F1 H1 σ ρ g1.fh (re.m g1.ff) d e3 Q fun v F2 H2 g2 => q v F2 H2 (g1.trans g2)
theorem sem_chain (ha : SemE K ta fa) (hb : SemE K tb fb) (hc : SemE K tc fc) (L : Lf2 K r g) (L' : Lf2 K r' g') : SemE K (tChain r r' ta tb tc) (fChain g g' fa fb fc) := fun F H σ ρ e re d h Q q => by
  obtain ⟨a, h1, h⟩ := Option.bind_eq_some_iff.mp h
  obtain ⟨b, h2, h⟩ := Option.bind_eq_some_iff.mp h
  obtain ⟨z, h3, h⟩ := Option.bind_eq_some_iff.mp h
  obtain ⟨k, h4, h⟩ := Option.bind_eq_some_iff.mp h
  refine ha F H σ ρ e re a h1 _ fun x F1 H1 g1 r1 => ?_
  refine hb F1 H1 σ ρ g1.fh (re.m g1.ff) b h2 _ fun y F2 H2 g2 r2 => ?_
  refine L F2 H2 a b x y g2.fh (r1.m g2.ff) r2 z h3 _ fun zv F3 H3 g3 r3 => ⟨k, rep_b r3 h4, ?_⟩
  cases k with
  | true =>
    obtain ⟨c, h5, h6⟩ := Option.bind_eq_some_iff.mp h
    refine hc F3 H3 σ ρ g3.fh (re.m ((g1.trans g2).trans g3).ff) c h5 _ fun w F4 H4 g4 r4 => ?_
    exact L' F4 H4 b c y w g4.fh (r2.m (g3.trans g4).ff) r4 d h6 Q fun v F5 H5 g5 r5 => q v F5 H5 ((((g1.trans g2).trans g3).trans g4).trans g5) r5
  | false =>
    cases h
    exact q _ F3 H3 ((g1.trans g2).trans g3) (rep_bl.mpr rfl)
end
end Mi

/-! Mi2: operators, subscripts, built-in calls, by data. -/
namespace Mi
open PySem PySem.Spec PyProof.Rows L2
section
variable {K : PySem.W.Frag} {F H : Hp}
theorem rep_i {d : D} {b : Int} {v : V} (h : Rep K H d v) (e : d.i? = some b) : v = .int b := by
  cases d <;> simp only [D.i?, Option.some.injEq, reduceCtorEq] at e
  subst e
  exact rep_int.mp h
end
/-! ints -/
def gI (f : Int → Int → D) (C : Int → Int → Bool) : D → D → Option D
  | .int a, .int b => if C a b then some (f a b) else none
  | _, _ => none
theorem gI_some {f : Int → Int → D} {C : Int → Int → Bool} {a b d : D} (h : gI f C a b = some d) : ∃ i j, a = .int i ∧ b = .int j ∧ C i j = true ∧ d = f i j := by
  unfold gI at h
  split at h
  · rename_i i j
    split at h
    · cases h
      exact ⟨i, j, rfl, rfl, by assumption, rfl⟩
    · cases h
  · cases h
theorem lf_I {K : PySem.W.Frag} {C : Int → Int → Prop} {g : Int → Int → V} {f : Int → Int → D} {c : Int → Int → Bool} (hc : ∀ i j, c i j = true → C i j) (hf : ∀ F i j, Rep K F (f i j) (g i j)) : Lf2 K (rI C g) (gI f c) := fun F H a b x y e ra rb d hd Q q => by
  obtain ⟨i, j, rfl, rfl, h1, rfl⟩ := gI_some hd
  exact ⟨i, j, rep_int.mp ra, rep_int.mp rb, hc i j h1, q _ F H (.refl e) (hf F i j)⟩
theorem lf_I0 {K : PySem.W.Frag} {g : Int → Int → V} {f : Int → Int → D} (hf : ∀ F i j, Rep K F (f i j) (g i j)) : Lf2 K (rI0 g) (gI f fun _ _ => true) := fun F H a b x y e ra rb d hd Q q => by
  obtain ⟨i, j, rfl, rfl, h1, rfl⟩ := gI_some hd
  exact ⟨i, j, rep_int.mp ra, rep_int.mp rb, q _ F H (.refl e) (hf F i j)⟩
abbrev dSub : D → D → Option D := gI (fun i j => .int (i - j)) fun _ _ => true
abbrev dMod : D → D → Option D := gI (fun i j => .int (i % j)) fun _ j => decide (0 < j)
abbrev dDiv : D → D → Option D := gI (fun i j => .int (i / j)) fun _ j => decide (0 < j ∧ j < 1073741824)
abbrev dPow : D → D → Option D := gI (fun i j => .int (i ^ j.toNat)) fun i j => decide (0 ≤ j ∧ j ≤ 1000000 ∧ i.natAbs < 2 ^ 64)
abbrev dMulI : D → D → Option D := gI (fun i j => .int (i * j)) fun i j => decide ((-(2 ^ 64) < i ∧ i < 2 ^ 64) ∨ (-(2 ^ 64) < j ∧ j < 2 ^ 64))
abbrev dLt : D → D → Option D := gI (fun i j => .bl (decide (i < j))) fun _ _ => true
abbrev dLe : D → D → Option D := gI (fun i j => .bl (decide (i ≤ j))) fun _ _ => true
abbrev dGt : D → D → Option D := gI (fun i j => .bl (decide (j < i))) fun _ _ => true
abbrev dGe : D → D → Option D := gI (fun i j => .bl (decide (j ≤ i))) fun _ _ => true
section
variable {K : PySem.W.Frag}
theorem lf_sub : Lf2 K (rI0 fun i j => .int (i - j)) dSub := lf_I0 fun _ _ _ => rep_int.mpr rfl
theorem lf_mod : Lf2 K (rI (fun _ j => 0 < j) fun i j => .int (i % j)) dMod := lf_I (fun i j h => by simpa using h) fun _ _ _ => rep_int.mpr rfl
theorem lf_div : Lf2 K (rI CDiv fun i j => .int (i / j)) dDiv := lf_I (fun i j h => by have z := of_decide_eq_true h; exact z) fun _ _ _ => rep_int.mpr rfl
theorem lf_pow : Lf2 K (rI CPow fun i j => .int (i ^ j.toNat)) dPow := lf_I (fun i j h => by have z := of_decide_eq_true h; exact z) fun _ _ _ => rep_int.mpr rfl
theorem lf_mulI : Lf2 K (rI CMul fun i j => .int (i * j)) dMulI := lf_I (fun i j h => by have z := of_decide_eq_true h; exact z) fun _ _ _ => rep_int.mpr rfl
theorem lf_lt : Lf2 K (rI0 fun i j => .bl (decide (i < j))) dLt := lf_I0 fun _ _ _ => rep_bl.mpr rfl
theorem lf_le : Lf2 K (rI0 fun i j => .bl (decide (i ≤ j))) dLe := lf_I0 fun _ _ _ => rep_bl.mpr rfl
theorem lf_gt : Lf2 K (rI0 fun i j => .bl (decide (j < i))) dGt := lf_I0 fun _ _ _ => rep_bl.mpr rfl
theorem lf_ge : Lf2 K (rI0 fun i j => .bl (decide (j ≤ i))) dGe := lf_I0 fun _ _ _ => rep_bl.mpr rfl
end
/-! + : ints, tuples -/
def rAddA (K : PySem.W.Frag) : R2 := fun x y H Q => rI0 (fun i j => .int (i + j)) x y H Q ∨ rCatA K x y H Q
theorem op_addA {X : Cx} : OpR X (binaryOp .Add) (rAddA X.K) := OpR.or op_add op_catA
def dAdd : D → D → Option D
  | .int a, .int b => some (.int (a + b))
  | .tup a, .tup b => if a.length + b.length ≤ 100000 then some (.tup (a ++ b)) else none
  | _, _ => none
theorem lf_add {K : PySem.W.Frag} : Lf2 K (rAddA K) dAdd := fun F H a b x y e ra rb d hd Q q => by
  unfold dAdd at hd
  split at hd
  · cases hd
    exact .inl ⟨_, _, rep_int.mp ra, rep_int.mp rb, q _ F H (.refl e) (rep_int.mpr rfl)⟩
  · rename_i as bs
    split at hd
    · rename_i hl
      cases hd
      obtain ⟨p, vs, rfl, h1, r1⟩ := rep_tup.mp ra
      obtain ⟨p', us, rfl, h2, r2⟩ := rep_tup.mp rb
      refine .inr ⟨p, p', vs, us, rfl, rfl, .of (e _ _ h1), .of (e _ _ h2), by rw [← r1.len, ← r2.len]; exact sz_of hl, fun z => ?_, fun n z => ?_, fun n n' p'' hp => ?_⟩
      · subst z
        have : as = [] := List.length_eq_zero_iff.mp r1.len
        subst this
        exact q _ F H (.refl e) rb
      · subst z
        have : bs = [] := List.length_eq_zero_iff.mp r2.len
        subst this
        rw [List.append_nil] at q
        exact q _ F H (.refl e) ra
      · exact q _ _ _ (.new e hp) (rep_tup.mpr ⟨_, _, rfl, upd_same, (r1.append r2).m (.new (e.free hp))⟩)
    · cases hd
  · cases hd
/-- a list and a list -/
def dCat : D → D → Option O
  | .lst a, .lst b => if a.length + b.length ≤ 100000 then some (.l (a ++ b)) else none
  | _, _ => none
theorem lf_cat {K : PySem.W.Frag} : Lf2N K rCat dCat := fun F H a b x y e ra rb d hd Q q => by
  unfold dCat at hd
  split at hd
  · rename_i as bs
    split at hd
    · rename_i hl
      cases hd
      obtain ⟨p, vs, rfl, h1, r1⟩ := rep_lst.mp ra
      obtain ⟨p', us, rfl, h2, r2⟩ := rep_lst.mp rb
      exact ⟨p, p', vs, us, rfl, rfl, e _ _ h1, e _ _ h2, by rw [← r1.len, ← r2.len]; exact sz_of hl, fun p'' hp => q _ _ F _ (.off e hp) hp (e.free hp) upd_same ⟨_, rfl, r1.append r2⟩⟩
    · cases hd
  · cases hd
/-! * : ints, a tuple by an int -/
def rMulA (K : PySem.W.Frag) : R2 := fun x y H Q => rI CMul (fun i j => .int (i * j)) x y H Q ∨ rRepT K x y H Q
theorem op_mulA {X : Cx} : OpR X (binaryOp .Mult) (rMulA X.K) := OpR.or op_mul op_repT
def dMul : D → D → Option D
  | .tup a, .int k => if a ≠ [] ∧ 2 ≤ k ∧ k ≤ 1000 ∧ a.length ≤ 1000 then some (.tup (List.replicate k.toNat a).flatten) else none
  | a, b => dMulI a b
theorem lf_mul {K : PySem.W.Frag} : Lf2 K (rMulA K) dMul := fun F H a b x y e ra rb d hd Q q => by
  unfold dMul at hd
  split at hd
  · rename_i as k
    split at hd
    · rename_i hl
      cases hd
      obtain ⟨p, vs, rfl, h1, r1⟩ := rep_tup.mp ra
      have hn : vs ≠ [] := fun z => hl.1 (List.length_eq_zero_iff.mp (by rw [r1.len, z]; rfl))
      exact .inr ⟨p, k, vs, rfl, rep_int.mp rb, .of (e _ _ h1), hn, hl.2.1, hl.2.2.1, by rw [← r1.len]; exact hl.2.2.2, fun p' hp => q _ _ _ (.new e hp) (rep_tup.mpr ⟨_, _, rfl, upd_same, (r1.rep _).m (.new (e.free hp))⟩)⟩
    · cases hd
  · exact .inl (lf_mulI F H a b x y e ra rb d hd Q q)

/-! ### data without dicts; ==, in -/
def D.seq? : D → Option (List D)
  | .tup xs => some xs
  | .lst xs => some xs
  | .sl xs => some xs
  | .kt xs => some xs
  | _ => none
def D.flat? : D → Option V
  | .non => some .non
  | .bl b => some (.bl b)
  | .int b => some (.int b)
  | .str b => some (.str b)
  | _ => none
theorem rep_flat {K : PySem.W.Frag} {H : Hp} {d : D} {x v : V} (h : Rep K H d v) (e : d.flat? = some x) : v = x ∧ flatV x = true := by
  cases d <;> simp only [D.flat?, Option.some.injEq, reduceCtorEq] at e
  · subst e; exact ⟨rep_non.mp h, rfl⟩
  · subst e; exact ⟨rep_bl.mp h, rfl⟩
  · subst e; exact ⟨rep_int.mp h, rfl⟩
  · subst e; exact ⟨rep_str.mp h, rfl⟩
def flats : List D → Option (List V)
  | [] => some []
  | d :: ds => (D.flat? d).bind fun v => (flats ds).bind fun vs => some (v :: vs)
theorem reps_flat {K : PySem.W.Frag} {H : Hp} : ∀ {ds : List D} {xs vs : List V}, Reps K H ds vs → flats ds = some xs → vs = xs ∧ xs.all flatV = true
  | [], _, _, h, e => by
    cases e
    exact ⟨reps_nil.mp h, rfl⟩
  | d :: ds, _, _, h, e => by
    obtain ⟨v, h1, e⟩ := Option.bind_eq_some_iff.mp e
    obtain ⟨vs, h2, e⟩ := Option.bind_eq_some_iff.mp e
    cases e
    obtain ⟨v', r, rfl, a, b⟩ := reps_cons.mp h
    obtain ⟨rfl, e1⟩ := rep_flat a h1
    obtain ⟨rfl, e2⟩ := reps_flat b h2
    exact ⟨rfl, by rw [List.all_cons, e1, e2]; rfl⟩
theorem rep_seq {K : PySem.W.Frag} {H : Hp} {d : D} {xs : List D} {v : V} (h : Rep K H d v) (e : d.seq? = some xs) : ∃ a vs, v = .ref a ∧ (SqL K H a vs ∨ SqT K H a vs) ∧ Reps K H xs vs := by
  cases d <;> simp only [D.seq?, Option.some.injEq, reduceCtorEq] at e
  · subst e
    obtain ⟨a, vs, h1, h2, h3⟩ := rep_tup.mp h
    exact ⟨a, vs, h1, .inr (.of h2), h3⟩
  · subst e
    obtain ⟨a, vs, h1, h2, h3⟩ := rep_lst.mp h
    exact ⟨a, vs, h1, .inl (.of h2), h3⟩
  · subst e
    obtain ⟨a, vs, h1, h2, h3⟩ := rep_sl.mp h
    exact ⟨a, vs, h1, .inl h2, h3⟩
  · subst e
    obtain ⟨a, vs, h1, h2, h3⟩ := rep_ktl h
    exact ⟨a, vs, h1, .inr h2, h3⟩

/-! dicts by data -/
section
variable {κ : Type} [DecidableEq κ]
def valD (kvs : List (κ × D)) (k : κ) : Option D := (kvs.find? fun kv => decide (kv.1 = k)).map (·.2)
def putD (kvs : List (κ × D)) (k : κ) (v : D) : List (κ × D) :=
  if (kvs.any fun kv => decide (kv.1 = k)) = true then kvs.map (fun kv => if kv.1 = k then (kv.1, v) else kv) else kvs ++ [(k, v)]
theorem valD_pos {p : κ × D} {r : List (κ × D)} {k : κ} (e : p.1 = k) : valD (p :: r) k = some p.2 := by simp [valD, List.find?_cons, e]
theorem valD_neg {p : κ × D} {r : List (κ × D)} {k : κ} (e : ¬ p.1 = k) : valD (p :: r) k = valD r k := by simp [valD, List.find?_cons, e]
end
def D.key? : D → Option Key
  | .int i => some (.inl i)
  | .str x => some (.inr x)
  | _ => none
theorem rep_key {K : PySem.W.Frag} {H : Hp} {d : D} {k : Key} {v : V} (h : Rep K H d v) (e : d.key? = some k) : v = kV k := by
  cases d <;> simp only [D.key?, Option.some.injEq, reduceCtorEq] at e
  · subst e; exact rep_int.mp h
  · subst e; exact rep_str.mp h
def keys : List D → Option (List Key)
  | [] => some []
  | d :: ds => (D.key? d).bind fun v => (keys ds).bind fun vs => some (v :: vs)
theorem reps_keys {K : PySem.W.Frag} {H : Hp} : ∀ {ds : List D} {ks : List Key} {vs : List V}, Reps K H ds vs → keys ds = some ks → vs = ks.map kV
  | [], _, _, h, e => by
    cases e
    exact reps_nil.mp h
  | d :: ds, _, _, h, e => by
    obtain ⟨v, h1, e⟩ := Option.bind_eq_some_iff.mp e
    obtain ⟨vs, h2, e⟩ := Option.bind_eq_some_iff.mp e
    cases e
    obtain ⟨v', r, rfl, a, b⟩ := reps_cons.mp h
    rw [rep_key a h1, reps_keys b h2]
    rfl
def D.keyT? : D → Option (List Key)
  | .tup xs => keys xs
  | _ => none
section
variable {K : PySem.W.Frag} {F : Hp} {k : Key}
theorem RepK.len : ∀ {ds : List (Key × D)} {vs : List (Key × V)}, RepK K F ds vs → ds.length = vs.length
  | [], _, h => by rw [repK_nil] at h; subst h; rfl
  | (_, _) :: _, _, h => by
    obtain ⟨v, r, rfl, _, t⟩ := repK_cons.mp h
    simp [t.len]
theorem RepT.len : ∀ {ds : List (List Key × D)} {vs : List (List Key × V)}, RepT K F ds vs → ds.length = vs.length
  | [], _, h => by rw [repT_nil] at h; subst h; rfl
  | (_, _) :: _, _, h => by
    obtain ⟨v, r, rfl, _, t⟩ := repT_cons.mp h
    simp [t.len]
theorem RepK.val {k : Key} : ∀ {ds : List (Key × D)} {vs : List (Key × V)}, RepK K F ds vs → (∀ d, valD ds k = some d → ∃ v, valV vs k = some v ∧ Rep K F d v) ∧ (valD ds k = none → valV vs k = none)
  | [], _, h => by
    rw [repK_nil] at h
    subst h
    exact ⟨fun d e => by simp [valD] at e, fun _ => rfl⟩
  | (k', d') :: ds, _, h => by
    obtain ⟨v, r, rfl, h1, t⟩ := repK_cons.mp h
    by_cases e : k' = k
    · rw [valD_pos (p := (k', d')) e, valV_pos (p := (k', v)) e]
      exact ⟨fun d q => by cases q; exact ⟨v, rfl, h1⟩, fun q => by cases q⟩
    · rw [valD_neg (p := (k', d')) e, valV_neg (p := (k', v)) e]
      exact t.val
theorem RepT.val {k : List Key} : ∀ {ds : List (List Key × D)} {vs : List (List Key × V)}, RepT K F ds vs → (∀ d, valD ds k = some d → ∃ v, valV vs k = some v ∧ Rep K F d v) ∧ (valD ds k = none → valV vs k = none)
  | [], _, h => by
    rw [repT_nil] at h
    subst h
    exact ⟨fun d e => by simp [valD] at e, fun _ => rfl⟩
  | (k', d') :: ds, _, h => by
    obtain ⟨v, r, rfl, h1, t⟩ := repT_cons.mp h
    by_cases e : k' = k
    · rw [valD_pos (p := (k', d')) e, valV_pos (p := (k', v)) e]
      exact ⟨fun d q => by cases q; exact ⟨v, rfl, h1⟩, fun q => by cases q⟩
    · rw [valD_neg (p := (k', d')) e, valV_neg (p := (k', v)) e]
      exact t.val
theorem RepK.keys : ∀ {ds : List (Key × D)} {vs : List (Key × V)}, RepK K F ds vs → vs.map (·.1) = ds.map (·.1)
  | [], _, h => by rw [repK_nil] at h; subst h; rfl
  | (_, _) :: _, _, h => by
    obtain ⟨v, r, rfl, _, t⟩ := repK_cons.mp h
    simp [t.keys]
theorem RepT.keys : ∀ {ds : List (List Key × D)} {vs : List (List Key × V)}, RepT K F ds vs → vs.map (·.1) = ds.map (·.1)
  | [], _, h => by rw [repT_nil] at h; subst h; rfl
  | (_, _) :: _, _, h => by
    obtain ⟨v, r, rfl, _, t⟩ := repT_cons.mp h
    simp [t.keys]
theorem RepK.app : ∀ {ds es : List (Key × D)} {vs us : List (Key × V)}, RepK K F ds vs → RepK K F es us → RepK K F (ds ++ es) (vs ++ us)
  | [], _, _, _, h, q => by rw [repK_nil] at h; subst h; exact q
  | (_, _) :: _, _, _, _, h, q => by
    obtain ⟨v, r, rfl, h1, t⟩ := repK_cons.mp h
    exact repK_cons.mpr ⟨v, _, rfl, h1, t.app q⟩
theorem RepT.app : ∀ {ds es : List (List Key × D)} {vs us : List (List Key × V)}, RepT K F ds vs → RepT K F es us → RepT K F (ds ++ es) (vs ++ us)
  | [], _, _, _, h, q => by rw [repT_nil] at h; subst h; exact q
  | (_, _) :: _, _, _, _, h, q => by
    obtain ⟨v, r, rfl, h1, t⟩ := repT_cons.mp h
    exact repT_cons.mpr ⟨v, _, rfl, h1, t.app q⟩
theorem any_keys {κ α β : Type} [DecidableEq κ] {ds : List (κ × α)} {vs : List (κ × β)} (h : vs.map (·.1) = ds.map (·.1)) (k : κ) : (vs.any fun kv => decide (kv.1 = k)) = (ds.any fun kv => decide (kv.1 = k)) := by
  have e : ∀ {γ : Type} (l : List (κ × γ)), (l.any fun kv => decide (kv.1 = k)) = ((l.map (·.1)).any fun z => decide (z = k)) := fun l => by rw [List.any_map]; rfl
  rw [e, e, h]
theorem RepK.mapd {k : Key} {d : D} {v : V} (q : Rep K F d v) {ds : List (Key × D)} {vs : List (Key × V)} (h : RepK K F ds vs) : RepK K F (ds.map (fun kv => if kv.1 = k then (kv.1, d) else kv)) (vs.map (fun kv => if kv.1 = k then (kv.1, v) else kv)) := by
  induction ds generalizing vs with
  | nil => rw [repK_nil] at h; subst h; exact repK_nil.mpr rfl
  | cons p ds ih =>
    obtain ⟨k', d'⟩ := p
    obtain ⟨v', r, rfl, h1, t⟩ := repK_cons.mp h
    rw [List.map_cons, List.map_cons]
    by_cases e : k' = k
    · simp only [e, if_true]
      exact repK_cons.mpr ⟨v, _, rfl, q, ih t⟩
    · simp only [e, if_false]
      exact repK_cons.mpr ⟨v', _, rfl, h1, ih t⟩
theorem RepK.put {d : D} {v : V} (q : Rep K F d v) {ds : List (Key × D)} {vs : List (Key × V)} (h : RepK K F ds vs) : RepK K F (putD ds k d) (putK vs k v) := by
  unfold putD putK
  rw [any_keys h.keys]
  split
  · exact h.mapd q
  · exact h.app (repK_cons.mpr ⟨v, [], rfl, q, repK_nil.mpr rfl⟩)
theorem RepT.mapd {k : List Key} {d : D} {v : V} (q : Rep K F d v) {ds : List (List Key × D)} {vs : List (List Key × V)} (h : RepT K F ds vs) : RepT K F (ds.map (fun kv => if kv.1 = k then (kv.1, d) else kv)) (vs.map (fun kv => if kv.1 = k then (kv.1, v) else kv)) := by
  induction ds generalizing vs with
  | nil => rw [repT_nil] at h; subst h; exact repT_nil.mpr rfl
  | cons p ds ih =>
    obtain ⟨k', d'⟩ := p
    obtain ⟨v', r, rfl, h1, t⟩ := repT_cons.mp h
    rw [List.map_cons, List.map_cons]
    by_cases e : k' = k
    · simp only [e, if_true]
      exact repT_cons.mpr ⟨v, _, rfl, q, ih t⟩
    · simp only [e, if_false]
      exact repT_cons.mpr ⟨v', _, rfl, h1, ih t⟩
theorem RepT.put {k : List Key} {d : D} {v : V} (q : Rep K F d v) {ds : List (List Key × D)} {vs : List (List Key × V)} (h : RepT K F ds vs) : RepT K F (putD ds k d) (putK vs k v) := by
  unfold putD putK
  rw [any_keys h.keys]
  split
  · exact h.mapd q
  · exact h.app (repT_cons.mpr ⟨v, [], rfl, q, repT_nil.mpr rfl⟩)
end
/-- d[k], there or not; some none: it is not there -/
def dGet : D → D → Option (Option D)
  | .dK kvs, k => (D.key? k).bind fun k => some (valD kvs k)
  | .dT kvs, k => (D.keyT? k).bind fun k => some (valD kvs k)
  | _, _ => none
theorem dGet_ok {K : PySem.W.Frag} {F H : Hp} {a k : D} {x y : V} {o : Option D} (e : Ex F H) (ra : Rep K F a x) (rk : Rep K F k y) (h : dGet a k = some o) :
    ∃ p r, x = .ref p ∧ DGet H p y r ∧ IsD H p ∧ (∀ d, o = some d → ∃ v, r = some v ∧ Rep K F d v) ∧ (o = none → r = none) := by
  unfold dGet at h
  split at h
  · obtain ⟨k', h1, h⟩ := Option.bind_eq_some_iff.mp h
    cases h
    obtain ⟨p, vs, rfl, h2, h3⟩ := rep_dK.mp ra
    rw [rep_key rk h1]
    exact ⟨p, _, rfl, .k (e _ _ h2), .inl ⟨_, .inl (e _ _ h2)⟩, h3.val⟩
  · obtain ⟨k', h1, h⟩ := Option.bind_eq_some_iff.mp h
    cases h
    obtain ⟨p, vs, rfl, h2, h3⟩ := rep_dT.mp ra
    cases k <;> simp only [D.keyT?, reduceCtorEq] at h1
    obtain ⟨b, us, rfl, h4, h5⟩ := rep_tup.mp rk
    rw [reps_keys h5 h1] at h4
    exact ⟨p, _, rfl, .t (e _ _ h2) (e _ _ h4), .inr ⟨_, .inl (e _ _ h2)⟩, h3.val⟩
  · cases h

/-! subscripts -/
theorem ix_dict {X : Cx} (hu : X.A.units + 1 < cLine) : IxR X (fun x y H Q => ∃ a v, x = .ref a ∧ DGet H a y (some v) ∧ Q v H) := by
  intro value slice pins s σ H x y v u Q I rx ry h hs
  obtain ⟨a, w, rfl, hg, q⟩ := h
  cases rx
  exact tail_any (dict_typeIs I hg) slot_dict_getitem.lookup (d_getItem hu I hg ry fun w' s' I' rw' => ⟨w, H, I', rw', q⟩) hs
def rIxA (K : PySem.W.Frag) : R2 := fun x y H Q => rIxL K x y H Q ∨ (rIxT K x y H Q ∨ ∃ a v, x = .ref a ∧ DGet H a y (some v) ∧ Q v H)
theorem ix_all {X : Cx} (hu : X.A.units + 1 < cLine) : IxR X (rIxA X.K) := IxR.or ix_list (IxR.or ix_tup (ix_dict hu))
def dIx (a b : D) : Option D := match a.seq?, b.i? with
  | some xs, some i => atI xs i
  | _, _ => (dGet a b).bind id
theorem atI_rep {K : PySem.W.Frag} {H : Hp} {xs : List D} {vs : List V} {i : Int} {d : D} (r : Reps K H xs vs) (h : atI xs i = some d) : ∃ v, atI vs i = some v ∧ Rep K H d v := by
  unfold atI at h ⊢
  obtain ⟨j, h1, h2⟩ := Option.bind_eq_some_iff.mp h
  obtain ⟨v, h3, h4⟩ := r.get h2
  rw [← r.len, h1]
  exact ⟨v, h3, h4⟩
theorem lf_ix {K : PySem.W.Frag} : Lf2 K (rIxA K) dIx := fun F H a b x y e ra rb d hd Q q => by
  unfold dIx at hd
  split at hd
  · rename_i xs i h1 h2
    obtain ⟨p, vs, rfl, hs, rs⟩ := rep_seq ra h1
    obtain ⟨v, h3, h4⟩ := atI_rep rs hd
    rcases hs with hs | hs
    · exact .inl ⟨p, vs, i, v, rfl, rep_i rb h2, e.l hs, h3, q _ F H (.refl e) h4⟩
    · exact .inr (.inl ⟨p, vs, i, v, rfl, rep_i rb h2, e.t hs, h3, q _ F H (.refl e) h4⟩)
  · obtain ⟨o, h1, h2⟩ := Option.bind_eq_some_iff.mp hd
    have h2 : o = some d := h2
    subst h2
    obtain ⟨p, r, rfl, g, _, h3, _⟩ := dGet_ok e ra rb h1
    obtain ⟨v, rfl, h4⟩ := h3 d rfl
    exact .inr (.inr ⟨p, v, rfl, g, q _ F H (.refl e) h4⟩)
/-! in -/
theorem op_din {X : Cx} (hu : X.A.units + 1 < cLine) : OpR X (compareOp .In) (fun y x H Q => ∃ a o, x = .ref a ∧ DGet H a y o ∧ Q (.bl o.isSome) H) := by
  intro pins s σ H x y v u Q I rx ry h
  obtain ⟨a, o, rfl, hg, q⟩ := h
  cases ry
  exact d_in hu I hg rx fun s' I' => ⟨.bl o.isSome, H, I', rfl, q⟩
theorem op_dnotin {X : Cx} (hu : X.A.units + 1 < cLine) : OpR X (compareOp .NotIn) (fun y x H Q => ∃ a o, x = .ref a ∧ DGet H a y o ∧ Q (.bl (!o.isSome)) H) := by
  intro pins s σ H x y v u Q I rx ry h
  obtain ⟨a, o, rfl, hg, q⟩ := h
  cases ry
  exact d_notIn hu I hg rx fun s' I' => ⟨.bl (!o.isSome), H, I', rfl, q⟩
def rInA (K : PySem.W.Frag) : R2 := fun x y H Q => rIn K false x y H Q ∨ ∃ a o, y = .ref a ∧ DGet H a x o ∧ Q (.bl o.isSome) H
def rNinA (K : PySem.W.Frag) : R2 := fun x y H Q => rIn K true x y H Q ∨ ∃ a o, y = .ref a ∧ DGet H a x o ∧ Q (.bl (!o.isSome)) H
theorem op_inA {X : Cx} (hu : X.A.units + 1 < cLine) : OpR X (compareOp .In) (rInA X.K) := OpR.or op_in_seq (op_din hu)
theorem op_ninA {X : Cx} (hu : X.A.units + 1 < cLine) : OpR X (compareOp .NotIn) (rNinA X.K) := OpR.or op_notIn_seq (op_dnotin hu)
def bIn (a b : D) : Option Bool := match b.seq? with
  | some xs => a.flat?.bind fun v => (flats xs).bind fun vs => some (inV v vs)
  | none => (dGet b a).bind fun o => some o.isSome
def dIn (a b : D) : Option D := (bIn a b).map .bl
def dNin (a b : D) : Option D := (bIn a b).map fun k => .bl (!k)
theorem lf_in {K : PySem.W.Frag} : Lf2 K (rInA K) dIn := fun F H a b x y e ra rb d hd Q q => by
  obtain ⟨k, hk, rfl⟩ := Option.map_eq_some_iff.mp hd
  unfold bIn at hk
  split at hk
  · rename_i xs h0
    obtain ⟨v, h1, h2⟩ := Option.bind_eq_some_iff.mp hk
    obtain ⟨vs, h3, h4⟩ := Option.bind_eq_some_iff.mp h2
    cases h4
    obtain ⟨p, us, rfl, hs, rs⟩ := rep_seq rb h0
    obtain ⟨rfl, f1⟩ := rep_flat ra h1
    obtain ⟨rfl, f2⟩ := reps_flat rs h3
    exact .inl ⟨p, _, rfl, hs.imp e.l e.t, f1, f2, q _ F H (.refl e) (rep_bl.mpr rfl)⟩
  · obtain ⟨o, h1, h2⟩ := Option.bind_eq_some_iff.mp hk
    cases h2
    obtain ⟨p, r, rfl, g, _, h3, h4⟩ := dGet_ok e rb ra h1
    refine .inr ⟨p, r, rfl, g, q _ F H (.refl e) (rep_bl.mpr ?_)⟩
    cases o with
    | none => rw [h4 rfl]; rfl
    | some d => obtain ⟨v, rfl, _⟩ := h3 d rfl; rfl
theorem lf_nin {K : PySem.W.Frag} : Lf2 K (rNinA K) dNin := fun F H a b x y e ra rb d hd Q q => by
  obtain ⟨k, hk, rfl⟩ := Option.map_eq_some_iff.mp hd
  unfold bIn at hk
  split at hk
  · rename_i xs h0
    obtain ⟨v, h1, h2⟩ := Option.bind_eq_some_iff.mp hk
    obtain ⟨vs, h3, h4⟩ := Option.bind_eq_some_iff.mp h2
    cases h4
    obtain ⟨p, us, rfl, hs, rs⟩ := rep_seq rb h0
    obtain ⟨rfl, f1⟩ := rep_flat ra h1
    obtain ⟨rfl, f2⟩ := reps_flat rs h3
    exact .inl ⟨p, _, rfl, hs.imp e.l e.t, f1, f2, q _ F H (.refl e) (rep_bl.mpr rfl)⟩
  · obtain ⟨o, h1, h2⟩ := Option.bind_eq_some_iff.mp hk
    cases h2
    obtain ⟨p, r, rfl, g, _, h3, h4⟩ := dGet_ok e rb ra h1
    refine .inr ⟨p, r, rfl, g, q _ F H (.refl e) (rep_bl.mpr ?_)⟩
    cases o with
    | none => rw [h4 rfl]; rfl
    | some d => obtain ⟨v, rfl, _⟩ := h3 d rfl; rfl
/-! is -/
def rIsA : R2 := fun x y H Q => (y = .non ∧ Q (.bl (decide (x = .non))) H) ∨ ((∃ a b, x = .bl a ∧ y = .bl b ∧ Q (.bl (decide (a = b))) H) ∨ ∃ a b, x = .ty a ∧ y = .ty b ∧ Q (.bl (decide (a = b))) H)
def rIsnA : R2 := fun x y H Q => (y = .non ∧ Q (.bl (!decide (x = .non))) H) ∨ ((∃ a b, x = .bl a ∧ y = .bl b ∧ Q (.bl (!decide (a = b))) H) ∨ ∃ a b, x = .ty a ∧ y = .ty b ∧ Q (.bl (!decide (a = b))) H)
theorem op_isA {X : Cx} : OpR X (compareOp .Is) rIsA := OpR.or op_isN (OpR.or op_is_bl op_isTyB)
theorem op_isnA {X : Cx} : OpR X (compareOp .IsNot) rIsnA := OpR.or op_notN (OpR.or op_isnot_bl op_notTyB)
def D.isNon : D → Bool
  | .non => true
  | _ => false
theorem rep_isNon {K : PySem.W.Frag} {H : Hp} {d : D} {x : V} (h : Rep K H d x) : decide (x = .non) = d.isNon := by
  cases d with
  | non => rw [rep_non.mp h]; rfl
  | bl _ => rw [rep_bl.mp h]; rfl
  | int _ => rw [rep_int.mp h]; rfl
  | str _ => rw [rep_str.mp h]; rfl
  | ty _ => rw [rep_ty.mp h]; rfl
  | tup _ => obtain ⟨_, _, rfl, _⟩ := rep_tup.mp h; rfl
  | lst _ => obtain ⟨_, _, rfl, _⟩ := rep_lst.mp h; rfl
  | sl _ => obtain ⟨_, _, rfl, _⟩ := rep_sl.mp h; rfl
  | kt _ => obtain ⟨_, _, rfl, _⟩ := rep_ktl h; rfl
  | dK _ => obtain ⟨_, _, rfl, _⟩ := rep_dK.mp h; rfl
  | dT _ => obtain ⟨_, _, rfl, _⟩ := rep_dT.mp h; rfl
  | ob _ _ => obtain ⟨_, _, _, _, rfl, _⟩ := rep_ob.mp h; rfl
def bIs : D → D → Option Bool
  | a, .non => some a.isNon
  | .bl a, .bl b => some (decide (a = b))
  | .ty a, .ty b => some (decide (a = b))
  | _, _ => none
def dIs (a b : D) : Option D := (bIs a b).map .bl
def dIsn (a b : D) : Option D := (bIs a b).map fun k => .bl (!k)
theorem lf_is {K : PySem.W.Frag} : Lf2 K rIsA dIs := fun F H a b x y e ra rb d hd Q q => by
  obtain ⟨k, hk, rfl⟩ := Option.map_eq_some_iff.mp hd
  unfold bIs at hk
  split at hk
  · cases hk
    exact .inl ⟨rep_non.mp rb, q _ F H (.refl e) (rep_bl.mpr (by rw [rep_isNon ra]))⟩
  · cases hk
    exact .inr (.inl ⟨_, _, rep_bl.mp ra, rep_bl.mp rb, q _ F H (.refl e) (rep_bl.mpr rfl)⟩)
  · cases hk
    exact .inr (.inr ⟨_, _, rep_ty.mp ra, rep_ty.mp rb, q _ F H (.refl e) (rep_bl.mpr rfl)⟩)
  · cases hk
theorem lf_isn {K : PySem.W.Frag} : Lf2 K rIsnA dIsn := fun F H a b x y e ra rb d hd Q q => by
  obtain ⟨k, hk, rfl⟩ := Option.map_eq_some_iff.mp hd
  unfold bIs at hk
  split at hk
  · cases hk
    exact .inl ⟨rep_non.mp rb, q _ F H (.refl e) (rep_bl.mpr (by rw [rep_isNon ra]))⟩
  · cases hk
    exact .inr (.inl ⟨_, _, rep_bl.mp ra, rep_bl.mp rb, q _ F H (.refl e) (rep_bl.mpr rfl)⟩)
  · cases hk
    exact .inr (.inr ⟨_, _, rep_ty.mp ra, rep_ty.mp rb, q _ F H (.refl e) (rep_bl.mpr rfl)⟩)
  · cases hk
/-! == : equal data of any kind; data without dicts -/
mutual
def D.py? : D → Option PyData
  | .non => some .none
  | .bl b => some (.bool b)
  | .int i => some (.int i)
  | .str x => some (.str x)
  | .tup xs => (pys? xs).map .tuple
  | .kt xs => (pys? xs).map .tuple
  | .lst xs => (pys? xs).map .list
  | .sl xs => (pys? xs).map .list
  | _ => none
def pys? : List D → Option (List PyData)
  | [] => some []
  | d :: ds => (D.py? d).bind fun p => (pys? ds).bind fun ps => some (p :: ps)
end
mutual
theorem rep_py {K : PySem.W.Frag} {H : Hp} : ∀ (d : D) (p : PyData) (v : V), Rep K H d v → d.py? = some p → Dp K H v p
  | .non, _, _, h, e => by cases e; rw [rep_non.mp h]; exact .non
  | .bl _, _, _, h, e => by cases e; rw [rep_bl.mp h]; exact .bl _
  | .int _, _, _, h, e => by cases e; rw [rep_int.mp h]; exact .int _
  | .str _, _, _, h, e => by cases e; rw [rep_str.mp h]; exact .str _
  | .tup xs, _, _, h, e => by
    simp only [D.py?] at e
    obtain ⟨ps, h1, rfl⟩ := Option.map_eq_some_iff.mp e
    obtain ⟨a, vs, rfl, h2, h3⟩ := rep_tup.mp h
    exact .tup (.of h2) (reps_py xs ps vs h3 h1)
  | .kt xs, _, _, h, e => by
    simp only [D.py?] at e
    obtain ⟨ps, h1, rfl⟩ := Option.map_eq_some_iff.mp e
    obtain ⟨a, vs, rfl, h2, h3⟩ := rep_ktl h
    exact .tup h2 (reps_py xs ps vs h3 h1)
  | .lst xs, _, _, h, e => by
    simp only [D.py?] at e
    obtain ⟨ps, h1, rfl⟩ := Option.map_eq_some_iff.mp e
    obtain ⟨a, vs, rfl, h2, h3⟩ := rep_lst.mp h
    exact .lst (.of h2) (reps_py xs ps vs h3 h1)
  | .sl xs, _, _, h, e => by
    simp only [D.py?] at e
    obtain ⟨ps, h1, rfl⟩ := Option.map_eq_some_iff.mp e
    obtain ⟨a, vs, rfl, h2, h3⟩ := rep_sl.mp h
    exact .lst h2 (reps_py xs ps vs h3 h1)
  | .dK _, _, _, _, e | .dT _, _, _, _, e | .ob _ _, _, _, _, e | .ty _, _, _, _, e => by simp only [D.py?, reduceCtorEq] at e
theorem reps_py {K : PySem.W.Frag} {H : Hp} : ∀ (ds : List D) (ps : List PyData) (vs : List V), Reps K H ds vs → pys? ds = some ps → DpAll K H vs ps
  | [], _, _, h, e => by cases e; rw [reps_nil.mp h]; exact .nil
  | d :: ds, _, _, h, e => by
    simp only [pys?] at e
    obtain ⟨p, h1, e⟩ := Option.bind_eq_some_iff.mp e
    obtain ⟨ps, h2, e⟩ := Option.bind_eq_some_iff.mp e
    cases e
    obtain ⟨v, r, rfl, a, b⟩ := reps_cons.mp h
    exact .cons (rep_py d p v a h1) (reps_py ds ps r b h2)
end
end Mi

/-! Mi3: ==, !=, built-in calls, slices, by data. -/
namespace Mi
open PySem PySem.Spec PyProof.Rows L2
mutual
theorem py_plain : ∀ (d : D) (p : PyData), d.py? = some p → p.plain = true
  | .non, _, e | .bl _, _, e | .int _, _, e | .str _, _, e => by cases e; rfl
  | .tup xs, _, e | .kt xs, _, e | .lst xs, _, e | .sl xs, _, e => by
    simp only [D.py?] at e
    obtain ⟨ps, h1, rfl⟩ := Option.map_eq_some_iff.mp e
    exact pys_plain xs ps h1
  | .dK _, _, e | .dT _, _, e | .ob _ _, _, e | .ty _, _, e => by simp only [D.py?, reduceCtorEq] at e
theorem pys_plain : ∀ (ds : List D) (ps : List PyData), pys? ds = some ps → PyData.plainAll ps = true
  | [], _, e => by cases e; rfl
  | d :: ds, _, e => by
    simp only [pys?] at e
    obtain ⟨p, h1, e⟩ := Option.bind_eq_some_iff.mp e
    obtain ⟨ps, h2, e⟩ := Option.bind_eq_some_iff.mp e
    cases e
    simp only [PyData.plainAll, py_plain d p h1, pys_plain ds ps h2, Bool.and_self]
end
/-! the same data -/
mutual
def same : D → D → Bool
  | .non, .non => true
  | .bl a, .bl b => a == b
  | .int a, .int b => a == b
  | .str a, .str b => decide (a = b)
  | .tup a, .tup b => sames a b
  | .lst a, .lst b => sames a b
  | .dK a, .dK b => sameK a b
  | _, _ => false
def sames : List D → List D → Bool
  | [], [] => true
  | a :: as, b :: bs => same a b && sames as bs
  | _, _ => false
def sameK : List (Key × D) → List (Key × D) → Bool
  | [], [] => true
  | (k, a) :: as, (l, b) :: bs => decide (k = l) && same a b && sameK as bs
  | _, _ => false
end
mutual
def dep : D → Nat
  | .tup xs | .lst xs => deps xs + 1
  | .dK xs => depK xs + 1
  | _ => 0
def deps : List D → Nat
  | [] => 0
  | x :: xs => max (dep x) (deps xs)
def depK : List (Key × D) → Nat
  | [] => 0
  | (_, x) :: xs => max (dep x) (depK xs)
end
section
open PySem.W
variable {X : Cx} {pins : List (Addr × Obj)} {σ : L2.St} {H : Hp} {s : Shared}
theorem leaf_flat {P : Program} {w : World} {x : V} {v u : Value} (r1 : RelV x v) (r2 : RelV x u) (f : flatV x = true) (n : Nat) : EqTree P w s n v u true :=
  .leaf fun A _ => by
    have h := eqAt_V (A := A) (s := s) r2 r1 f f
    have e : eqV x x = true := by cases x <;> simp_all [flatV, eqV]
    rw [e] at h
    have h2 := eqAt_V (A := A) (s := s) (y := x) (x := x) (u := v) (v := u) r1 r2 f f
    rw [e] at h2
    first | exact h | exact h2
mutual
theorem tree_same (I : Inv X pins σ H s) : ∀ (d e : D) (n : Nat) (x y : V) (v u : Value), same d e = true → dep d ≤ n → Rep X.K H d x → Rep X.K H e y → RelV x v → RelV y u → EqTree X.prog X.w s n v u true
  | .non, e, n, x, y, v, u, h, _, r1, r2, q1, q2 => by
    cases e <;> simp only [same, Bool.false_eq_true] at h
    rw [rep_non.mp r1] at q1
    rw [rep_non.mp r2] at q2
    exact leaf_flat q1 q2 rfl n
  | .bl b, e, n, x, y, v, u, h, _, r1, r2, q1, q2 => by
    cases e <;> simp only [same, Bool.false_eq_true, beq_iff_eq] at h
    subst h
    rw [rep_bl.mp r1] at q1
    rw [rep_bl.mp r2] at q2
    exact leaf_flat q1 q2 rfl n
  | .int b, e, n, x, y, v, u, h, _, r1, r2, q1, q2 => by
    cases e <;> simp only [same, Bool.false_eq_true, beq_iff_eq] at h
    subst h
    rw [rep_int.mp r1] at q1
    rw [rep_int.mp r2] at q2
    exact leaf_flat q1 q2 rfl n
  | .str b, e, n, x, y, v, u, h, _, r1, r2, q1, q2 => by
    cases e <;> simp only [same, Bool.false_eq_true, decide_eq_true_eq] at h
    subst h
    rw [rep_str.mp r1] at q1
    rw [rep_str.mp r2] at q2
    exact leaf_flat q1 q2 rfl n
  | .tup ds, e, n, x, y, v, u, h, hn, r1, r2, q1, q2 => by
    cases e <;> simp only [same, Bool.false_eq_true] at h
    rename_i es
    obtain ⟨a, vs, rfl, h1, p1⟩ := rep_tup.mp r1
    obtain ⟨b, us, rfl, h2, p2⟩ := rep_tup.mp r2
    cases q1; cases q2
    simp only [dep] at hn
    obtain ⟨m, rfl⟩ : ∃ m, n = m + 1 := ⟨n - 1, by omega⟩
    obtain ⟨its, rv, t1, z1⟩ := I.tuple (.of h1)
    obtain ⟨iu, ru, t2, z2⟩ := I.tuple (.of h2)
    by_cases hab : a = b
    · subst hab; exact .same
    · have hl := trees_same I ds es m vs us its iu h (by omega) p1 p2 rv ru
      have := EqTree.tuples (prog := X.prog) (w := X.w) (s := s) (n := m) (e := fun _ => true) hab t1 t2 (fun j h1 h2 => by
        simpa using hl.2 j (by simpa using h1) (by simpa using h2))
      have e0 : ((List.range (min its.toArray.size iu.toArray.size)).all (fun _ => true) && its.toArray.size == iu.toArray.size) = true := by
        simp [hl.1]
      rw [e0] at this
      exact this
  | .lst ds, e, n, x, y, v, u, h, hn, r1, r2, q1, q2 => by
    cases e <;> simp only [same, Bool.false_eq_true] at h
    rename_i es
    obtain ⟨a, vs, rfl, h1, p1⟩ := rep_lst.mp r1
    obtain ⟨b, us, rfl, h2, p2⟩ := rep_lst.mp r2
    cases q1; cases q2
    simp only [dep] at hn
    obtain ⟨m, rfl⟩ : ∃ m, n = m + 1 := ⟨n - 1, by omega⟩
    obtain ⟨its, rv, t1, z1⟩ := I.list (.of h1)
    obtain ⟨iu, ru, t2, z2⟩ := I.list (.of h2)
    by_cases hab : a = b
    · subst hab; exact .same
    · have hl := trees_same I ds es m vs us its iu h (by omega) p1 p2 rv ru
      have := EqTree.lists (prog := X.prog) (w := X.w) (s := s) (n := m) (e := fun _ => true) hab t1.isList t2.isList (by simp [hl.1]) (fun j h1 h2 => by
        simpa using hl.2 j (by simpa using h1) (by simpa using h2))
      have e0 : ((List.range its.toArray.size).all (fun _ => true)) = true := by simp
      rw [e0] at this
      exact this
  | .dK ds, e, n, x, y, v, u, h, hn, r1, r2, q1, q2 => by
    cases e <;> simp only [same, Bool.false_eq_true] at h
    rename_i es
    obtain ⟨a, vs, rfl, h1, p1⟩ := rep_dK.mp r1
    obtain ⟨b, us, rfl, h2, p2⟩ := rep_dK.mp r2
    cases q1; cases q2
    simp only [dep] at hn
    obtain ⟨m, rfl⟩ : ∃ m, n = m + 1 := ⟨n - 1, by omega⟩
    obtain ⟨_, ya, va, ra, da⟩ := (show ObjOk X.prog X.w H s.heap a (.dK vs) from I.hok a _ h1)
    obtain ⟨_, yb, vb, rb, db⟩ := (show ObjOk X.prog X.w H s.heap b (.dK us) from I.hok b _ h2)
    by_cases hab : a = b
    · subst hab; exact .same
    · have nd : (va.map (·.1)).Nodup := by
        obtain ⟨_, _, _, _, _, _, _, _, nd⟩ := da
        exact nd
      have hl := treesK_same I ds es m vs us va vb h (by omega) p1 p2 ra rb
      have e1 : ∀ k v, (k, v) ∈ va → ∃ y, valueAt vb k = some y ∧ EqTree X.prog X.w s m v y true := hl.2 nd
      have := EqTree.dicts (prog := X.prog) (w := X.w) (s := s) (n := m) (knd := mixKind X.prog X.w) (e := fun _ => true) hab ya yb da db (fun k v y hm hv => by
        obtain ⟨y', h3, h4⟩ := e1 k v hm
        rw [hv] at h3
        cases h3
        exact h4)
      have e0 : (va.length == vb.length && va.all fun p => (valueAt vb p.1).isSome && true) = true := by
        rw [hl.1]
        simp only [beq_self_eq_true, Bool.and_true, Bool.true_and, List.all_eq_true]
        intro p hp
        obtain ⟨y', h3, h4⟩ := e1 p.1 p.2 hp
        rw [h3]; rfl
      rw [e0] at this
      exact this
  | .sl _, e, n, x, y, v, u, h, hn, r1, r2, q1, q2 | .kt _, e, n, x, y, v, u, h, hn, r1, r2, q1, q2 | .dT _, e, n, x, y, v, u, h, hn, r1, r2, q1, q2 | .ob _ _, e, n, x, y, v, u, h, hn, r1, r2, q1, q2 | .ty _, e, n, x, y, v, u, h, hn, r1, r2, q1, q2 => by
    simp only [same, Bool.false_eq_true] at h
theorem trees_same (I : Inv X pins σ H s) : ∀ (ds es : List D) (n : Nat) (xs ys : List V) (vs us : List Value), sames ds es = true → deps ds ≤ n → Reps X.K H ds xs → Reps X.K H es ys → Vals xs vs → Vals ys us →
    vs.length = us.length ∧ ∀ j (h1 : j < vs.length) (h2 : j < us.length), EqTree X.prog X.w s n vs[j] us[j] true
  | [], es, n, xs, ys, vs, us, h, hn, r1, r2, q1, q2 => by
    cases es <;> simp only [sames, Bool.false_eq_true] at h
    rw [reps_nil.mp r1] at q1
    rw [reps_nil.mp r2] at q2
    cases q1; cases q2
    exact ⟨rfl, fun j h1 => absurd h1 (by simp)⟩
  | d :: ds, es, n, xs, ys, vs, us, h, hn, r1, r2, q1, q2 => by
    cases es <;> simp only [sames, Bool.false_eq_true, Bool.and_eq_true] at h
    rename_i e es
    obtain ⟨x, xr, rfl, a1, b1⟩ := reps_cons.mp r1
    obtain ⟨y, yr, rfl, a2, b2⟩ := reps_cons.mp r2
    simp only [deps] at hn
    cases q1 with
    | cons c1 d1 =>
      cases q2 with
      | cons c2 d2 =>
        have t := tree_same I d e n x y _ _ h.1 (by omega) a1 a2 c1 c2
        have ts := trees_same I ds es n xr yr _ _ h.2 (by omega) b1 b2 d1 d2
        refine ⟨by simp [ts.1], fun j h1 h2 => ?_⟩
        cases j with
        | zero => exact t
        | succ j => exact ts.2 j (by simpa using h1) (by simpa using h2)
theorem treesK_same (I : Inv X pins σ H s) : ∀ (ds es : List (Key × D)) (n : Nat) (xs ys : List (Key × V)) (vs us : List (Key × Value)), sameK ds es = true → depK ds ≤ n → RepK X.K H ds xs → RepK X.K H es ys → KV xs vs → KV ys us →
    vs.length = us.length ∧ ((vs.map (·.1)).Nodup → ∀ k v, (k, v) ∈ vs → ∃ y, valueAt us k = some y ∧ EqTree X.prog X.w s n v y true)
  | [], es, n, xs, ys, vs, us, h, hn, r1, r2, q1, q2 => by
    cases es <;> simp only [sameK, Bool.false_eq_true] at h
    rw [repK_nil.mp r1] at q1
    rw [repK_nil.mp r2] at q2
    cases q1; cases q2
    exact ⟨rfl, fun _ k v h => by simp at h⟩
  | (k, d) :: ds, es, n, xs, ys, vs, us, h, hn, r1, r2, q1, q2 => by
    cases es <;> simp only [sameK, Bool.false_eq_true, Bool.and_eq_true, decide_eq_true_eq] at h
    rename_i e es
    obtain ⟨l, e⟩ := e
    simp only [Bool.and_eq_true, decide_eq_true_eq] at h
    obtain ⟨⟨rfl, h1⟩, h2⟩ := h
    obtain ⟨x, xr, rfl, a1, b1⟩ := repK_cons.mp r1
    obtain ⟨y, yr, rfl, a2, b2⟩ := repK_cons.mp r2
    simp only [depK] at hn
    unfold KV at q1 q2
    cases q1 with
    | @cons _ p _ ps c1 d1 =>
      cases q2 with
      | @cons _ q _ qs c2 d2 =>
        obtain ⟨k1, v1⟩ := p
        obtain ⟨k2, u1⟩ := q
        have z1 : k = k1 := c1.1
        have z2 : k = k2 := c2.1
        have t := tree_same I d e n x y v1 u1 h1 (by omega) a1 a2 c1.2 c2.2
        subst z1
        subst z2
        have ts := treesK_same I ds es n xr yr _ _ h2 (by omega) b1 b2 d1 d2
        refine ⟨by simp [ts.1], fun nd k' v' hm => ?_⟩
        rw [List.map_cons, List.nodup_cons] at nd
        rcases List.mem_cons.mp hm with e0 | hm
        · cases e0
          exact ⟨u1, by simp [valueAt], t⟩
        · obtain ⟨y', h3, h4⟩ := ts.2 nd.2 k' v' hm
          have hne : k ≠ k' := fun z => nd.1 (by subst z; exact List.mem_map.mpr ⟨_, hm, rfl⟩)
          exact ⟨y', by simpa [valueAt, hne] using h3, h4⟩
end
end
end Mi

/-! Mi4: == as an operator; built-in calls. -/
namespace Mi
open PySem PySem.Spec PyProof.Rows L2
section
open PySem.W
variable {X : Cx} {pins : List (Addr × Obj)} {σ : L2.St} {H : Hp} {s : Shared}
theorem cmp_same (I : Inv X pins σ H s) {A : Around} (hu : A.units + 64 < cLine) {d e : D} {x y : V} {v u : Value} (h : same d e = true) (hd : dep d ≤ 60) (h0 : 0 < dep d) (r1 : Rep X.K H d x) (r2 : Rep X.K H e y) (q1 : RelV x v) (q2 : RelV y u)
    {E Q : Value → Shared → Prop} (q : Q (.bool true) s) : wpAny (model X.prog X.w) A (compareOp .Eq v u) Q E s := by
  cases d with
  | tup ds =>
    cases e <;> simp only [same, Bool.false_eq_true] at h
    rename_i es
    obtain ⟨a, vs, rfl, h1, p1⟩ := rep_tup.mp r1
    obtain ⟨b, us, rfl, h2, p2⟩ := rep_tup.mp r2
    cases q1; cases q2
    simp only [dep] at hd
    obtain ⟨its, rv, t1, z1⟩ := I.tuple (.of h1)
    obtain ⟨iu, ru, t2, z2⟩ := I.tuple (.of h2)
    have hl := trees_same I ds es 59 vs us its iu h (by omega) p1 p2 rv ru
    refine eq_tuplesT (n := 59) (e := fun _ => true) t1 t2 (fun j h1 h2 => by simpa using hl.2 j (by simpa using h1) (by simpa using h2)) (by omega) ?_
    have e0 : ((List.range (min its.toArray.size iu.toArray.size)).all (fun _ => true) && its.toArray.size == iu.toArray.size) = true := by simp [hl.1]
    rw [e0]
    exact q
  | lst ds =>
    cases e <;> simp only [same, Bool.false_eq_true] at h
    rename_i es
    obtain ⟨a, vs, rfl, h1, p1⟩ := rep_lst.mp r1
    obtain ⟨b, us, rfl, h2, p2⟩ := rep_lst.mp r2
    cases q1; cases q2
    simp only [dep] at hd
    obtain ⟨its, rv, t1, z1⟩ := I.list (.of h1)
    obtain ⟨iu, ru, t2, z2⟩ := I.list (.of h2)
    have hl := trees_same I ds es 59 vs us its iu h (by omega) p1 p2 rv ru
    refine eq_listsT (n := 59) (e := fun _ => true) t1.isList t2.isList (by simp [hl.1]) (fun j h1 h2 => by simpa using hl.2 j (by simpa using h1) (by simpa using h2)) (by omega) ?_
    have e0 : ((List.range its.toArray.size).all (fun _ => true)) = true := by simp
    rw [e0]
    exact q
  | dK ds =>
    cases e <;> simp only [same, Bool.false_eq_true] at h
    rename_i es
    obtain ⟨a, vs, rfl, h1, p1⟩ := rep_dK.mp r1
    obtain ⟨b, us, rfl, h2, p2⟩ := rep_dK.mp r2
    cases q1; cases q2
    simp only [dep] at hd
    obtain ⟨_, ya, va, ra, da⟩ := (show ObjOk X.prog X.w H s.heap a (.dK vs) from I.hok a _ h1)
    obtain ⟨_, yb, vb, rb, db⟩ := (show ObjOk X.prog X.w H s.heap b (.dK us) from I.hok b _ h2)
    have nd : (va.map (·.1)).Nodup := by
      obtain ⟨_, _, _, _, _, _, _, _, nd⟩ := da
      exact nd
    have hl := treesK_same I ds es 59 vs us va vb h (by omega) p1 p2 ra rb
    have e1 : ∀ k v, (k, v) ∈ va → ∃ y, valueAt vb k = some y ∧ EqTree X.prog X.w s 59 v y true := hl.2 nd
    refine eq_dictsT (n := 59) (knd := mixKind X.prog X.w) (e := fun _ => true) ya yb da db (fun k v y hm hv => by
      obtain ⟨y', h3, h4⟩ := e1 k v hm
      rw [hv] at h3
      cases h3
      exact h4) (by omega) ?_
    have e0 : (va.length == vb.length && va.all fun p => (valueAt vb p.1).isSome && true) = true := by
      rw [hl.1]
      simp only [beq_self_eq_true, Bool.and_true, Bool.true_and, List.all_eq_true]
      intro p hp
      obtain ⟨y', h3, h4⟩ := e1 p.1 p.2 hp
      rw [h3]; rfl
    rw [e0]
    exact q
  | _ => simp [dep] at h0
end
def rEqA (K : PySem.W.Frag) : R2 := fun x y H Q => rEq x y H Q ∨ ((∃ p q, Dp K H x p ∧ Dp K H y q ∧ p.plain = true ∧ q.plain = true ∧ p.depth ≤ 60 ∧ Q (.bl (PyData.eqv p q)) H) ∨
  ∃ d e, same d e = true ∧ dep d ≤ 60 ∧ 0 < dep d ∧ Rep K H d x ∧ Rep K H e y ∧ Q (.bl true) H)
theorem op_eqA {X : Cx} (hu : X.A.units + 64 < cLine) : OpR X (compareOp .Eq) (rEqA X.K) := by
  refine OpR.or op_eq (OpR.or ?_ ?_)
  · intro pins s σ H x y v u Q I rx ry h
    obtain ⟨d, e, hd, he, sd, se, dd, q⟩ := h
    obtain ⟨as, r1⟩ := Dp.reads I d x v hd rx
    obtain ⟨bs, r2⟩ := Dp.reads I e y u he ry
    exact PySem.SeqAt.eq_plain r1 r2 sd se (by omega) ⟨.bl _, H, I, rfl, q⟩
  · intro pins s σ H x y v u Q I rx ry h
    obtain ⟨d, e, h1, h2, h3, h4, h5, q⟩ := h
    exact cmp_same I hu h1 h2 h3 h4 h5 rx ry ⟨.bl _, H, I, rfl, q⟩
def bEq (a b : D) : Option Bool := match a.flat?, b.flat? with
  | some x, some y => if scal x y then some (decide (x = y)) else none
  | _, _ => match a.py?, b.py? with
    | some p, some q => if p.depth ≤ 60 then some (PyData.eqv p q) else none
    | _, _ => if same a b = true ∧ dep a ≤ 60 ∧ 0 < dep a then some true else none
def dEq (a b : D) : Option D := (bEq a b).map .bl
def dNe (a b : D) : Option D := (bEq a b).map fun k => .bl (!k)
theorem lf_eq {K : PySem.W.Frag} : Lf2 K (rEqA K) dEq := fun F H a b x y e ra rb d hd Q q => by
  obtain ⟨k, hk, rfl⟩ := Option.map_eq_some_iff.mp hd
  unfold bEq at hk
  split at hk
  · rename_i v w h1 h2
    split at hk
    · rename_i hs
      cases hk
      obtain ⟨rfl, _⟩ := rep_flat ra h1
      obtain ⟨rfl, _⟩ := rep_flat rb h2
      exact .inl ⟨hs, q _ F H (.refl e) (rep_bl.mpr rfl)⟩
    · cases hk
  · split at hk
    · rename_i v w h1 h2
      split at hk
      · rename_i hs
        cases hk
        exact .inr (.inl ⟨_, _, rep_py _ _ _ (ra.m e) h1, rep_py _ _ _ (rb.m e) h2, py_plain _ _ h1, py_plain _ _ h2, hs, q _ F H (.refl e) (rep_bl.mpr rfl)⟩)
      · cases hk
    · split at hk
      · rename_i hs
        cases hk
        exact .inr (.inr ⟨a, b, hs.1, hs.2.1, hs.2.2, ra.m e, rb.m e, q _ F H (.refl e) (rep_bl.mpr rfl)⟩)
      · cases hk
/-- != of flat data, of data without dicts -/
def rNeA (K : PySem.W.Frag) : R2 := fun x y H Q => rNe x y H Q ∨ (∃ p q, Dp K H x p ∧ Dp K H y q ∧ p.plain = true ∧ q.plain = true ∧ p.depth ≤ 60 ∧ Q (.bl (!PyData.eqv p q)) H)
theorem op_neA {X : Cx} (hu : X.A.units + 64 < cLine) : OpR X (compareOp .NotEq) (rNeA X.K) := by
  refine OpR.or op_ne ?_
  intro pins s σ H x y v u Q I rx ry h
  obtain ⟨d, e, hd, he, sd, se, dd, q⟩ := h
  obtain ⟨as, r1⟩ := Dp.reads I d x v hd rx
  obtain ⟨bs, r2⟩ := Dp.reads I e y u he ry
  exact PySem.SeqAt.ne_plain r1 r2 sd se (by omega) ⟨.bl _, H, I, rfl, q⟩
def bNe (a b : D) : Option Bool := match a.flat?, b.flat? with
  | some x, some y => if scal x y then some (!decide (x = y)) else none
  | _, _ => match a.py?, b.py? with
    | some p, some q => if p.depth ≤ 60 then some (!PyData.eqv p q) else none
    | _, _ => none
def dNeP (a b : D) : Option D := (bNe a b).map .bl
theorem lf_ne {K : PySem.W.Frag} : Lf2 K (rNeA K) dNeP := fun F H a b x y e ra rb d hd Q q => by
  obtain ⟨k, hk, rfl⟩ := Option.map_eq_some_iff.mp hd
  unfold bNe at hk
  split at hk
  · rename_i v w h1 h2
    split at hk
    · rename_i hs
      cases hk
      obtain ⟨rfl, _⟩ := rep_flat ra h1
      obtain ⟨rfl, _⟩ := rep_flat rb h2
      exact .inl ⟨hs, q _ F H (.refl e) (rep_bl.mpr rfl)⟩
    · cases hk
  · split at hk
    · rename_i v w h1 h2
      split at hk
      · rename_i hs
        cases hk
        exact .inr ⟨_, _, rep_py _ _ _ (ra.m e) h1, rep_py _ _ _ (rb.m e) h2, py_plain _ _ h1, py_plain _ _ h2, hs, q _ F H (.refl e) (rep_bl.mpr rfl)⟩
      · cases hk
    · cases hk

/-! ### built-in calls -/
section
variable {K : PySem.W.Frag}
theorem one_of {F : Hp} {d : D} {vs : List V} (h : Reps K F [d] vs) : ∃ v, vs = [v] ∧ Rep K F d v := by
  obtain ⟨v, r, rfl, a, b⟩ := reps_cons.mp h
  rw [reps_nil.mp b]
  exact ⟨v, rfl, a⟩
theorem two_of {F : Hp} {d e : D} {vs : List V} (h : Reps K F [d, e] vs) : ∃ v u, vs = [v, u] ∧ Rep K F d v ∧ Rep K F e u := by
  obtain ⟨v, r, rfl, a, b⟩ := reps_cons.mp h
  obtain ⟨u, rfl, c⟩ := one_of b
  exact ⟨v, u, rfl, a, c⟩
def g1 (g : D → Option D) : List D → Option D
  | [d] => g d
  | _ => none
theorem lf_g1 {r : List V → Hp → VK → Prop} {g : D → Option D} (h : Lf1 K (fun x H Q => r [x] H Q) g) : LfC K r (g1 g) := fun F H a x e ra d hd Q q => by
  unfold g1 at hd
  split at hd
  · obtain ⟨v, rfl, rv⟩ := one_of ra
    exact h F H _ v e rv d hd Q q
  · cases hd
def gN1 (g : D → Option O) : List D → Option O
  | [d] => g d
  | _ => none
def Lf1N (K : PySem.W.Frag) (r : V → Hp → VK → Prop) (g : D → Option O) : Prop := ∀ F H a x, Ex F H → Rep K F a x → ∀ d, g a = some d → ∀ Q : VK, (∀ p h F' H', Gr F H F' H' → H p = none → F' p = none → H' p = some h → RepO K F' d h → Q (.ref p) H') → r x H Q
theorem lf_gN1 {r : List V → Hp → VK → Prop} {g : D → Option O} (h : Lf1N K (fun x H Q => r [x] H Q) g) : LfCN K r (gN1 g) := fun F H a x e ra d hd Q q => by
  unfold gN1 at hd
  split at hd
  · obtain ⟨v, rfl, rv⟩ := one_of ra
    exact h F H _ v e rv d hd Q q
  · cases hd
/-! len -/
def rLenA (K : PySem.W.Frag) : List V → Hp → VK → Prop := fun xs H Q => (∃ p ys, xs = [.ref p] ∧ (SqL K H p ys ∨ SqT K H p ys) ∧ Q (.int ys.length) H) ∨ ((∃ z, xs = [.str z] ∧ z.length ≤ sizeLine ∧ Q (.int z.length) H) ∨
  ((∃ a kvs, xs = [V.ref a] ∧ H a = some (.dK kvs) ∧ Q (.int kvs.length) H) ∨ rLenT xs H Q))
theorem call_lenA {X : Cx} : CallR X (.builtin "len") (rLenA X.K) := CallR.or call_len_seq (CallR.or call_len_str (CallR.or call_lenD call_len_dT))
def dLen (d : D) : Option D := match d.seq? with
  | some xs => some (.int xs.length)
  | none => match d with
    | .dK kvs => some (.int kvs.length)
    | .dT kvs => some (.int kvs.length)
    | .str z => if z.length ≤ 100000 then some (.int z.length) else none
    | _ => none
theorem lf_len : LfC K (rLenA K) (g1 dLen) := lf_g1 fun F H a x e ra d hd Q q => by
  unfold dLen at hd
  split at hd
  · rename_i xs h
    cases hd
    obtain ⟨p, vs, rfl, hs, rs⟩ := rep_seq ra h
    exact .inl ⟨p, vs, rfl, hs.imp e.l e.t, q _ F H (.refl e) (rep_int.mpr (by rw [rs.len]))⟩
  · split at hd
    · cases hd
      obtain ⟨p, vs, rfl, hs, rs⟩ := rep_dK.mp ra
      exact .inr (.inr (.inl ⟨p, vs, rfl, e _ _ hs, q _ F H (.refl e) (rep_int.mpr (by rw [rs.len]))⟩))
    · cases hd
      obtain ⟨p, vs, rfl, hs, rs⟩ := rep_dT.mp ra
      exact .inr (.inr (.inr ⟨p, vs, rfl, e _ _ hs, q _ F H (.refl e) (rep_int.mpr (by rw [rs.len]))⟩))
    · split at hd
      · rename_i hz
        cases hd
        rw [rep_str.mp ra]
        exact .inr (.inl ⟨_, rfl, sz_of hz, q _ F H (.refl e) (rep_int.mpr rfl)⟩)
      · cases hd
    · cases hd
/-! tuple(..), list(..), dict(..) -/
def dTuple : D → Option D
  | .lst xs => some (.tup xs)
  | .tup xs => some (.tup xs)
  | _ => none
theorem lf_tuple : LfC K (fun xs H Q => ∃ p ys, xs = [.ref p] ∧ ((SqL K H p ys ∧ ∀ l, H l = none → Q (.ref l) (upd H l (.tup ys))) ∨ (SqT K H p ys ∧ Q (.ref p) H))) (g1 dTuple) := lf_g1 fun F H a x e ra d hd Q q => by
  unfold dTuple at hd
  split at hd
  · cases hd
    obtain ⟨p, vs, rfl, hs, rs⟩ := rep_lst.mp ra
    exact ⟨p, vs, rfl, .inl ⟨.of (e _ _ hs), fun l hl => q _ _ _ (.new e hl) (rep_tup.mpr ⟨l, vs, rfl, upd_same, rs.m (.new (e.free hl))⟩)⟩⟩
  · cases hd
    obtain ⟨p, vs, rfl, hs, rs⟩ := rep_tup.mp ra
    exact ⟨p, vs, rfl, .inr ⟨.of (e _ _ hs), q _ F H (.refl e) ra⟩⟩
  · cases hd
def dList (d : D) : Option O := d.seq?.map .l
theorem lf_list : LfCN K (fun xs H Q => ∃ p ys, xs = [.ref p] ∧ (SqL K H p ys ∨ SqT K H p ys) ∧ ∀ l, H l = none → Q (.ref l) (upd H l (.lst ys))) (gN1 dList) := lf_gN1 fun F H a x e ra d hd Q q => by
  obtain ⟨xs, h, rfl⟩ := Option.map_eq_some_iff.mp hd
  obtain ⟨p, vs, rfl, hs, rs⟩ := rep_seq ra h
  exact ⟨p, vs, rfl, hs.imp e.l e.t, fun l hl => q _ _ F _ (.off e hl) hl (e.free hl) upd_same ⟨vs, rfl, rs⟩⟩
def dDict : D → Option O
  | .dK kvs => some (.k kvs)
  | _ => none
theorem lf_dict : LfCN K (fun xs H Q => ∃ (a : Addr) (kvs : List (Key × V)), xs = [.ref a] ∧ Rd H a (.dK kvs) ∧ ∀ p, H p = none → Q (.ref p) (upd H p (.dK kvs))) (gN1 dDict) := lf_gN1 fun F H a x e ra d hd Q q => by
  unfold dDict at hd
  split at hd
  · cases hd
    obtain ⟨p, vs, rfl, hs, rs⟩ := rep_dK.mp ra
    exact ⟨p, vs, rfl, .inl (e _ _ hs), fun l hl => q _ _ F _ (.off e hl) hl (e.free hl) upd_same ⟨vs, rfl, rs⟩⟩
  · cases hd
/-! abs, int, all, any, sum, type -/
def dAbs : D → Option D
  | .int i => some (.int (if i < 0 then -i else i))
  | _ => none
theorem lf_abs : LfC K (fun xs H Q => ∃ i, xs = [.int i] ∧ Q (.int (if i < 0 then -i else i)) H) (g1 dAbs) := lf_g1 fun F H a x e ra d hd Q q => by
  unfold dAbs at hd
  split at hd
  · cases hd
    exact ⟨_, by rw [rep_int.mp ra], q _ F H (.refl e) (rep_int.mpr rfl)⟩
  · cases hd
def dInt : D → Option D
  | .int i => some (.int i)
  | .bl k => some (.int (if k then 1 else 0))
  | _ => none
theorem lf_int : LfC K (fun xs H Q => (∃ i, xs = [.int i] ∧ Q (.int i) H) ∨ ∃ k, xs = [.bl k] ∧ Q (.int (if k then 1 else 0)) H) (g1 dInt) := lf_g1 fun F H a x e ra d hd Q q => by
  unfold dInt at hd
  split at hd
  · cases hd
    exact .inl ⟨_, by rw [rep_int.mp ra], q _ F H (.refl e) (rep_int.mpr rfl)⟩
  · cases hd
    exact .inr ⟨_, by rw [rep_bl.mp ra], q _ F H (.refl e) (rep_int.mpr rfl)⟩
  · cases hd
def bools : List D → Option (List Bool)
  | [] => some []
  | d :: ds => (D.b? d).bind fun b => (bools ds).bind fun bs => some (b :: bs)
theorem bools_eq : ∀ {ds : List D} {bs : List Bool}, bools ds = some bs → ds = bs.map D.bl
  | [], _, e => by cases e; rfl
  | d :: ds, _, e => by
    obtain ⟨b, h1, e⟩ := Option.bind_eq_some_iff.mp e
    obtain ⟨bs, h2, e⟩ := Option.bind_eq_some_iff.mp e
    cases e
    cases d <;> simp only [D.b?, Option.some.injEq, reduceCtorEq] at h1
    subst h1
    rw [bools_eq h2]
    rfl
def intsD : List D → Option (List Int)
  | [] => some []
  | d :: ds => (D.i? d).bind fun b => (intsD ds).bind fun bs => some (b :: bs)
theorem intsD_eq : ∀ {ds : List D} {bs : List Int}, intsD ds = some bs → ds = bs.map D.int
  | [], _, e => by cases e; rfl
  | d :: ds, _, e => by
    obtain ⟨b, h1, e⟩ := Option.bind_eq_some_iff.mp e
    obtain ⟨bs, h2, e⟩ := Option.bind_eq_some_iff.mp e
    cases e
    cases d <;> simp only [D.i?, Option.some.injEq, reduceCtorEq] at h1
    subst h1
    rw [intsD_eq h2]
    rfl
def dAll : D → Option D
  | .lst xs => (bools xs).map fun bs => .bl (bs.all id)
  | _ => none
def dAny : D → Option D
  | .lst xs => (bools xs).map fun bs => .bl (bs.any id)
  | _ => none
def dSum : D → Option D
  | .lst xs => (intsD xs).map fun bs => .int bs.sum
  | _ => none
theorem lf_all : LfC K (rAll K) (g1 dAll) := lf_g1 fun F H a x e ra d hd Q q => by
  unfold dAll at hd
  split at hd
  · obtain ⟨bs, h, rfl⟩ := Option.map_eq_some_iff.mp hd
    obtain ⟨p, vs, rfl, hs, rs⟩ := rep_lst.mp ra
    rw [bools_eq h] at rs
    rw [reps_bls.mp rs] at hs
    exact ⟨p, bs, rfl, .of (e _ _ hs), q _ F H (.refl e) (rep_bl.mpr rfl)⟩
  · cases hd
theorem lf_any : LfC K (rAny K) (g1 dAny) := lf_g1 fun F H a x e ra d hd Q q => by
  unfold dAny at hd
  split at hd
  · obtain ⟨bs, h, rfl⟩ := Option.map_eq_some_iff.mp hd
    obtain ⟨p, vs, rfl, hs, rs⟩ := rep_lst.mp ra
    rw [bools_eq h] at rs
    rw [reps_bls.mp rs] at hs
    exact ⟨p, bs, rfl, .of (e _ _ hs), q _ F H (.refl e) (rep_bl.mpr rfl)⟩
  · cases hd
theorem lf_sum : LfC K (rSum K) (g1 dSum) := lf_g1 fun F H a x e ra d hd Q q => by
  unfold dSum at hd
  split at hd
  · obtain ⟨bs, h, rfl⟩ := Option.map_eq_some_iff.mp hd
    obtain ⟨p, vs, rfl, hs, rs⟩ := rep_lst.mp ra
    rw [intsD_eq h] at rs
    rw [reps_ints.mp rs] at hs
    exact ⟨p, bs, rfl, .of (e _ _ hs), q _ F H (.refl e) (rep_int.mpr rfl)⟩
  · cases hd
def dTy : D → Option String
  | .non => some "NoneType"
  | .bl _ => some "bool"
  | .int _ => some "int"
  | .str _ => some "str"
  | .tup _ | .kt _ => some "tuple"
  | .lst _ | .sl _ => some "list"
  | .dK _ => some "dict"
  | _ => none
def dType (d : D) : Option D := (dTy d).map .ty
theorem lf_type : LfC K (rTyp K) (g1 dType) := lf_g1 fun F H a x e ra d hd Q q => by
  obtain ⟨T, h, rfl⟩ := Option.map_eq_some_iff.mp hd
  refine ⟨x, T, rfl, ?_, q _ F H (.refl e) (rep_ty.mpr rfl)⟩
  cases a <;> simp only [dTy, Option.some.injEq, reduceCtorEq] at h <;> subst h
  · rw [rep_non.mp ra]; exact .non
  · rw [rep_bl.mp ra]; exact .bl _
  · rw [rep_int.mp ra]; exact .int _
  · rw [rep_str.mp ra]; exact .str _
  · obtain ⟨p, vs, rfl, hs, rs⟩ := rep_tup.mp ra; exact .tup (.of (e _ _ hs))
  · obtain ⟨p, vs, rfl, hs, rs⟩ := rep_lst.mp ra; exact .lst (.of (e _ _ hs))
  · obtain ⟨p, vs, rfl, hs, rs⟩ := rep_sl.mp ra; exact .lst (e.l hs)
  · obtain ⟨p, vs, rfl, hs, rs⟩ := rep_ktl ra; exact .tup (e.t hs)
  · obtain ⟨p, vs, rfl, hs, rs⟩ := rep_dK.mp ra; exact .dK (e _ _ hs)
end

/-! ### sorted of texts -/
def leS (a b : Str) : Prop := ltCps b.cps.toList a.cps.toList = false
instance (a b : Str) : Decidable (leS a b) := by unfold leS; infer_instance
theorem ltCps_irr : ∀ a : List Nat, ltCps a a = false
  | [] => rfl
  | x :: r => by simp [ltCps, ltCps_irr r]
theorem ltCps_tri : ∀ a b : List Nat, ltCps a b = false → ltCps b a = false → a = b
  | [], [], _, _ => rfl
  | [], _ :: _, h, _ => by simp [ltCps] at h
  | _ :: _, [], _, h => by simp [ltCps] at h
  | x :: r, y :: t, h1, h2 => by
    simp [ltCps] at h1 h2
    have : x = y := by omega
    subst this
    rw [ltCps_tri r t (h1.2 rfl) (h2.2 rfl)]
theorem ltCps_asym : ∀ a b : List Nat, ltCps a b = true → ltCps b a = false
  | [], [], h => by simp [ltCps] at h
  | [], _ :: _, _ => rfl
  | _ :: _, [], h => by simp [ltCps] at h
  | x :: r, y :: t, h => by
    simp [ltCps] at h ⊢
    rcases h with h | ⟨rfl, h⟩
    · exact ⟨by omega, fun e => by omega⟩
    · exact ⟨by omega, fun _ => ltCps_asym r t h⟩
theorem leCps_trans : ∀ a b c : List Nat, ltCps b a = false → ltCps c b = false → ltCps c a = false
  | _, _, [], _, _ => by
    rename_i a b h1 h2
    cases b with
    | nil => exact h1
    | cons y t => simp [ltCps] at h2
  | [], _, _ :: _, _, _ => rfl
  | x :: r, [], _ :: _, h, _ => by simp [ltCps] at h
  | x :: r, y :: t, z :: u, h1, h2 => by
    simp [ltCps] at h1 h2 ⊢
    refine ⟨by omega, fun e => ?_⟩
    subst e
    have : y = z := by omega
    subst this
    exact leCps_trans r t u (h1.2 rfl) (h2.2 rfl)
theorem leS_trans {a b c : Str} (h1 : leS a b) (h2 : leS b c) : leS a c := leCps_trans _ _ _ h1 h2
theorem leS_anti {a b : Str} (h1 : leS a b) (h2 : leS b a) : a = b := by
  have e := ltCps_tri _ _ h2 h1
  cases a; cases b
  simp only at e
  rw [Array.toList_inj.mp e]
theorem leS_total {a b : Str} (h : ¬ leS a b) : leS b a := by
  unfold leS at h ⊢
  cases q : ltCps b.cps.toList a.cps.toList with
  | false => exact absurd q h
  | true => exact ltCps_asym _ _ q
def insS (x : Str) : List Str → List Str
  | [] => [x]
  | y :: r => if leS x y then x :: y :: r else y :: insS x r
def sortS : List Str → List Str
  | [] => []
  | x :: r => insS x (sortS r)
theorem insS_perm (x : Str) : ∀ r, (insS x r).Perm (x :: r)
  | [] => .refl _
  | y :: r => by
    unfold insS
    split
    · exact .refl _
    · exact ((insS_perm x r).cons y).trans (.swap x y r)
theorem sortS_perm : ∀ r, (sortS r).Perm r
  | [] => .refl _
  | x :: r => (insS_perm x _).trans ((sortS_perm r).cons x)
theorem insS_pw (x : Str) : ∀ r, r.Pairwise leS → (insS x r).Pairwise leS
  | [], _ => List.pairwise_singleton _ _
  | y :: r, h => by
    unfold insS
    obtain ⟨h1, h2⟩ := List.pairwise_cons.mp h
    split
    · rename_i hx
      refine List.pairwise_cons.mpr ⟨fun z hz => ?_, h⟩
      rcases List.mem_cons.mp hz with rfl | hz
      · exact hx
      · exact leS_trans hx (h1 z hz)
    · rename_i hx
      refine List.pairwise_cons.mpr ⟨fun z hz => ?_, insS_pw x r h2⟩
      rcases List.mem_cons.mp ((insS_perm x r).mem_iff.mp hz) with rfl | hz
      · exact leS_total hx
      · exact h1 z hz
theorem sortS_pw : ∀ r, (sortS r).Pairwise leS
  | [] => .nil
  | x :: r => insS_pw x _ (sortS_pw r)
theorem risingS_pw : ∀ (p : Str) (l : List Str), risingS p l = true → (p :: l).Pairwise leS
  | p, [], _ => List.pairwise_singleton _ _
  | p, x :: r, h => by
    simp only [risingS, Bool.and_eq_true, Bool.not_eq_true'] at h
    have ih := risingS_pw x r h.2
    refine List.pairwise_cons.mpr ⟨fun z hz => ?_, ih⟩
    rcases List.mem_cons.mp hz with rfl | hz
    · exact h.1
    · exact leS_trans (show leS p x from h.1) ((List.pairwise_cons.mp ih).1 z hz)
theorem sortedS_one {ys ks : List Str} (p : ys.Perm ks) (h : sortedS ys = true) : ys = sortS ks := by
  refine List.Perm.eq_of_pairwise (le := leS) (fun a b _ _ h1 h2 => leS_anti h1 h2) ?_ (sortS_pw ks) (p.trans (sortS_perm ks).symm)
  cases ys with
  | nil => exact .nil
  | cons x r => exact risingS_pw x r h
def strsK : List Key → Option (List Str)
  | [] => some []
  | .inr x :: r => (strsK r).map (x :: ·)
  | .inl _ :: _ => none
theorem strs_eq : ∀ {ks : List Key} {ss : List Str}, strsK ks = some ss → ks = ss.map Sum.inr
  | [], _, e => by cases e; rfl
  | .inr x :: r, _, e => by
    obtain ⟨ss, h, rfl⟩ := Option.map_eq_some_iff.mp e
    rw [strs_eq h]
    rfl
  | .inl _ :: _, _, e => by cases e
/-- sorted of a dict whose keys are texts -/
def dSortedD : D → Option O
  | .dK kvs => (strsK (kvs.map (·.1))).bind fun ss => if ss.length < 64 then some (.l ((sortS ss).map D.str)) else none
  | _ => none
theorem lf_sortedD {K : PySem.W.Frag} : LfCN K (fun xs H Q => ∃ (a : Addr) (kvs : List (Key × V)) (ks : List Str), xs = [.ref a] ∧ Rd H a (.dK kvs) ∧ kvs.map (·.1) = ks.map Sum.inr ∧ ks.length < 64 ∧ ∀ ys p, ys.Perm ks → sortedS ys = true → H p = none → Q (.ref p) (upd H p (.lst (ys.map V.str)))) (gN1 dSortedD) := lf_gN1 fun F H a x e ra d hd Q q => by
  unfold dSortedD at hd
  split at hd
  · obtain ⟨ss, h1, h2⟩ := Option.bind_eq_some_iff.mp hd
    split at h2
    · rename_i hl
      cases h2
      obtain ⟨p, vs, rfl, hs, rs⟩ := rep_dK.mp ra
      refine ⟨p, vs, ss, rfl, .inl (e _ _ hs), by rw [rs.keys]; exact strs_eq h1, hl, fun ys l hp hy hl => ?_⟩
      refine q _ _ F _ (.off e hl) hl (e.free hl) upd_same ⟨_, rfl, ?_⟩
      rw [← sortedS_one hp hy]
      exact reps_strs.mpr rfl
    · cases h2
  · cases hd
end Mi

/-! Mi5a: enumerate over a tuple. -/
namespace Mi
open PySem PySem.Spec PyProof.Rows L2
set_option maxHeartbeats 4000000 in
theorem meets_enumT (l : Addr) (its : Array Value) :
    Meets (Builtin.«enumerate.__new__» ⟨[.type "enumerate", .ref l], []⟩) (fun _ R s => s.heap.IsTuple l its ∧
      R (.ok (.ret (.ref (s.heap.push { cls := .type "tuple_iterator", data := .fields #[.ref l, .int 0 0] }).objs.size))) { s with heap := (s.heap.push { cls := .type "tuple_iterator", data := .fields #[.ref l, .int 0 0] }).push { cls := .type "enumerate", data := .fields #[.none, .bool false, .ref s.heap.objs.size, rawInt 0, .none, .none] } }) :=
  .of_wp fun prog w A R s h => by
    obtain ⟨hp, g, d, tk, os⟩ := s
    obtain ⟨h1, h⟩ := h
    have hsub := sub_enumerate
    have hL : Heap.IsTuple (Shared.heap ⟨hp, g, d, tk, os⟩) l its := h1
    wp_walk using wpAny_pyIter_tuple hL
    refine wpAny_stack_any fun st => wpAny_pure ?_
    split
    · rename_i c _ _ _ _ _
      cases (c == Value.type "enumerate") <;> (wp_walk using wpAny_pyIter_tuple hL; exact ⟨_, rfl, h⟩)
    · wp_walk using wpAny_pyIter_tuple hL
      exact ⟨_, rfl, h⟩
section
variable {prog : Program} {w : World} {A : Around} {E : Value → Shared → Prop} {s : Shared}
theorem call_enumT {l : Addr} {its : Array Value} {Q : Value → Shared → Prop} (hL : s.heap.IsTuple l its)
    (h : ∀ h', IsEnum h' (s.heap.objs.size + 1) s.heap.objs.size 0 .none → h'.IsTupleIter s.heap.objs.size l 0 → (∀ b o, s.heap.get? b = some o → h'.get? b = some o) → Q (.ref (s.heap.objs.size + 1)) { s with heap := h' }) :
    wpAny (model prog w) A (call (.type "enumerate") [.ref l]) Q E s := by
  refine callType_new F.called_enumerate (by decide) (F.typeCall_enumerate_1 _) (F.newCall_enumerate_1 _) (fun obj => F.args_object_init_2 obj _) F.entry_enumerate_new (meets_enumT l its) ⟨hL, ?_⟩
  have hz : (s.heap.push { cls := .type "tuple_iterator", data := .fields #[.ref l, .int 0 0] }).objs.size = s.heap.objs.size + 1 := Heap.size_push ..
  show _ ∧ _
  rw [hz]
  have he : IsEnum ((s.heap.push { cls := .type "tuple_iterator", data := .fields #[.ref l, .int 0 0] }).push { cls := .type "enumerate", data := .fields #[.none, .bool false, .ref s.heap.objs.size, rawInt 0, .none, .none] }) (s.heap.objs.size + 1) s.heap.objs.size 0 .none := by
    have z := Heap.get?_push_size (s.heap.push { cls := .type "tuple_iterator", data := .fields #[.ref l, .int 0 0] }) (o := { cls := .type "enumerate", data := .fields #[.none, .bool false, .ref s.heap.objs.size, rawInt 0, .none, .none] }) rfl
    rw [hz] at z
    exact z
  exact ⟨⟨_, he, rfl⟩, h _ he ⟨_, Heap.get?_push_of_some _ (Heap.get?_push_size _ rfl), rfl, rfl⟩ fun b o x => Heap.get?_push_of_some _ (Heap.get?_push_of_some _ x)⟩
end
/-- the tuple at a, each item in a new pair -/
def IteT (K : PySem.W.Frag) (a : Addr) : It :=
  ⟨fun i H => ∃ (xs : List V) (x : V), SqT K H a xs ∧ xs[i]? = some x, fun i H v H' => ∃ T x, v = .ref T ∧ H T = none ∧ H' = upd H T (.tup [.int (i : Nat), x]) ∧ ∀ xs, SqT K H a xs → xs[i]? = some x, fun i H => ∃ xs : List V, SqT K H a xs ∧ xs.length = i⟩
theorem turn_enumT {P : Program} {w : World} {K : PySem.W.Frag} {elts : List Expr} {kk : Nat} {tpos : Pos} (a e it : Addr) :
    Turn P w K (.Tuple elts kk tpos) (IteT K a) [e, it] e (fun i h => (∃ old, IsEnum h e it ((i : Nat) : Int) old) ∧ h.IsTupleIter it a i ∧ e ≠ it) where
  mem := by simp
  obj := fun i h st b hb => by
    obtain ⟨⟨old, he⟩, ⟨o, ho, hc, hd⟩, _⟩ := st
    have e' : b = e ∨ b = it := by simpa using hb
    rcases e' with z | z <;> rw [z]
    · exact ⟨_, he, fun v q => nomatch q⟩
    · exact ⟨o, ho, fun v q => by rw [hd] at q; cases q⟩
  keep := fun i h h' st k => by
    obtain ⟨⟨old, he⟩, hi, hne⟩ := st
    exact ⟨⟨old, k e (by simp) _ he⟩, hi.at fun o q => k it (by simp) o q, hne⟩
  item := by
    intro X hP hw hK hc i pins s σ H E I hf st hg
    subst hP hw hK
    obtain ⟨⟨old, he⟩, hit, hne⟩ := st
    obtain ⟨xs, x, hq, hx⟩ := hg
    obtain ⟨its, rv, p, hz⟩ := I.tuple hq
    obtain ⟨u, hu, ru⟩ := rv.get hx
    have hel : e < s.heap.objs.size := Heap.lt_size he
    have hil : it < s.heap.objs.size := by
      obtain ⟨_, q, _⟩ := hit
      exact Heap.lt_size q
    have hai : a ≠ it := fun z => by
      obtain ⟨_, q, qc, _⟩ := hit
      obtain ⟨_, q', qc', _⟩ := p
      rw [z, q] at q'
      cases q'
      rw [qc] at qc'
      simp at qc'
    have hae : a ≠ e := fun z => by
      obtain ⟨_, q', qc', _⟩ := p
      have he' : s.heap.get? e = some _ := he
      rw [z, he'] at q'
      cases q'
      simp at qc'
    have Dw := Draws.tuple (prog := X.prog) (w := X.w) (A := X.A.in1) (show X.A.in1.handled = none from I.ok.hd hc) it a hai its.toArray
    have hlt : i < its.toArray.size := by
      have z := (List.getElem?_eq_some_iff.mp hu).1
      simpa using z
    refine wpAny_pyNext_enum_itemC Dw he ⟨hit, p⟩ hlt hne (fun z => by
      rcases (show e = it ∨ e = a by simpa using z) with z | z
      · exact hne z
      · exact hae z.symm) fun u' h' tk hP ho hit' hT hsz hk => ?_
    have eu : u' = u := by
      have z : its.toArray[i]? = some u' := hP
      rw [List.getElem?_toArray, hu] at z
      exact (Option.some.inj z).symm
    subst eu
    refine ⟨_, rfl, wpAny_letOwnedTupleGo_enum (s := { s with heap := h', toks := tk + 1 }) ho fun h'' he' sb => ?_⟩
    have hT2 : h''.get? s.heap.objs.size = some { cls := .type "tuple", data := .seq #[.int i tk, u'] } := (sb.2 _ (Nat.ne_of_gt hel)).trans hT
    have new : ObjOk X.prog X.w (upd H s.heap.objs.size (.tup [.int (i : Nat), x])) h'' s.heap.objs.size (.tup [.int (i : Nat), x]) :=
      ⟨by show 2 ≤ sizeLine; decide, [.int i tk, u'], .cons ⟨_, rfl⟩ (.cons ru .nil), ⟨_, hT2, rfl, _, rfl⟩⟩
    have I1 : Inv X pins σ (upd H s.heap.objs.size (.tup [.int (i : Nat), x])) { s with heap := h'', toks := tk + 1 } :=
      I.turnedNew (ch := [e, it]) (fun b ob hb q => (sb.2 b (fun z => hb (by simp [z]))).trans (hk b ob (fun z => hb (by simp [z])) (fun z => hb (by simp [z])) q)) hf (Nat.le_refl _) new
    refine ⟨.ref s.heap.objs.size, _, I1, rfl, ⟨_, x, rfl, I.hok.fresh (Nat.le_refl _), rfl, fun ys hy => by rw [I.tuple_inj hy hq]; exact hx⟩, ⟨⟨u', ?_⟩, hit'.1.at fun o q => (sb.2 it (Ne.symm hne)).trans q, hne⟩, fun b hb => ?_⟩
    · have e1 : ((i + 1 : Nat) : Int) = (i : Int) + 1 := by omega
      rw [e1]
      exact he'
    · have hb' : b < s.heap.objs.size := by
        rcases (show b = e ∨ b = it by simpa using hb) with z | z <;> rw [z] <;> assumption
      rw [upd_ne (Nat.ne_of_lt hb')]
      exact (hf b hb).1
  done := by
    intro X hP hw hK hc i pins s σ H E I hf st hg
    subst hP hw hK
    obtain ⟨⟨old, he⟩, hit, hne⟩ := st
    obtain ⟨xs, hq, hx⟩ := hg
    obtain ⟨its, rv, p, hz⟩ := I.tuple hq
    obtain ⟨f0, f1, f2, f3, f4, f5⟩ := hf it (by simp)
    have hl := rv.length
    have hai : a ≠ it := fun z => by
      obtain ⟨_, q, qc, _⟩ := hit
      obtain ⟨_, q', qc', _⟩ := p
      rw [z, q] at q'
      cases q'
      rw [qc] at qc'
      simp at qc'
    have hae : a ≠ e := fun z => by
      obtain ⟨_, q', qc', _⟩ := p
      have he' : s.heap.get? e = some _ := he
      rw [z, he'] at q'
      cases q'
      simp at qc'
    have Dw := Draws.tuple (prog := X.prog) (w := X.w) (A := X.A.in1) (show X.A.in1.handled = none from I.ok.hd hc) it a hai its.toArray
    have en : i = its.toArray.size := by simp; omega
    exact wpAny_pyNext_enum_endD Dw he (show s.heap.IsTupleIter it a its.toArray.size ∧ _ from ⟨en ▸ hit, p⟩) fun h' eb => ⟨rfl, I.turned (t' := s.toks) (fun b o hb q => eb b o hb q) f0 f1 f3 f4 f5⟩
  self := fun A i s Q E st h => by
    obtain ⟨⟨_, he⟩, _⟩ := st
    exact wpAny_pyIter_enum he h
def iEnumA (K : PySem.W.Frag) (ta : TA) : TI := fun σ H R => ta σ H fun vs H1 => (∃ a xs, vs = [.ref a] ∧ SqL K H1 a xs ∧ R (Ite K a) H1) ∨ ∃ a xs, vs = [.ref a] ∧ SqT K H1 a xs ∧ R (IteT K a) H1
theorem pi_enumA {X : Cx} {e : Expr} {ta : TA} {p pos tpos : Pos} {elts : List Expr} {kk : Nat} (hg : Gl X "enumerate") (hm : X.mg "enumerate" = none) (ha : PA X [e] ta) (hs : starEach [e] X.env = [(false, eval e X.env)] := by rfl) :
    PI X (.Tuple elts kk tpos) (.Call (.Name "enumerate" p) [e] [] pos) (iEnumA X.K ta) := by
  refine ⟨fun pins s σ H R I h => ?_⟩
  refine Call_ (ld_blt I hg hm boot_enumerate (PyProof.Rows.callWith_type1 (thn (ha.run pos pins s σ H _ I h) fun us s1 ⟨vs, H1, I1, r1, q1⟩ => ?_) hs rfl))
  have fp : ∀ b ∈ [s1.heap.objs.size + 1, s1.heap.objs.size], FpOk X pins H1 b := fun b hb => by
    have hle : s1.heap.objs.size ≤ b := by
      rcases (show b = s1.heap.objs.size + 1 ∨ b = s1.heap.objs.size by simpa using hb) with z | z <;> rw [z] <;> omega
    exact I1.fpOk hle (I1.hok.fresh hle)
  rcases q1 with ⟨a, xs, ex, hq, q⟩ | ⟨a, xs, ex, hq, q⟩
  · subst ex
    cases r1 with
    | cons r rr =>
      cases rr
      cases r
      obtain ⟨its, rv, p', hz⟩ := I1.list hq
      exact call_enumerate_list p'.isList fun h' he hit hsz hk => wpAny_pyIter_enum he
        ⟨s1.heap.objs.size + 1, [s1.heap.objs.size + 1, s1.heap.objs.size], _, _, H1, rfl, I1.kept (t' := s1.toks) hk, turn_enum a (s1.heap.objs.size + 1) s1.heap.objs.size, ⟨⟨.none, he⟩, hit, Nat.succ_ne_self _⟩, fp, q⟩
  · subst ex
    cases r1 with
    | cons r rr =>
      cases rr
      cases r
      obtain ⟨its, rv, p', hz⟩ := I1.tuple hq
      exact call_enumT p' fun h' he hit hk => wpAny_pyIter_enum he
        ⟨s1.heap.objs.size + 1, [s1.heap.objs.size + 1, s1.heap.objs.size], _, _, H1, rfl, I1.kept (t' := s1.toks) hk, turn_enumT a (s1.heap.objs.size + 1) s1.heap.objs.size, ⟨⟨.none, he⟩, hit, Nat.succ_ne_self _⟩, fp, q⟩
/-- a list or a tuple -/
def iSeq (K : PySem.W.Frag) (tl : TE) : TI := fun σ H R => tl σ H fun x H1 => (∃ a, x = .ref a ∧ (∃ xs, SqL K H1 a xs) ∧ R (Itl K a) H1) ∨ ∃ a, x = .ref a ∧ (∃ xs, SqT K H1 a xs) ∧ R (Itt K a) H1
theorem pi_seq {X : Cx} {tg l : Expr} {tl : TE} (hl : PE X l tl) : PI X tg l (iSeq X.K tl) := by
  refine ⟨fun pins s σ H R I h => ?_⟩
  refine thn (hl.run pins s σ H _ I h) fun v s1 ⟨x, H1, I1, r1, q1⟩ => ?_
  have fp : ∀ b ∈ [s1.heap.objs.size], FpOk X pins H1 b := fun b hb => by
    rw [List.mem_singleton.mp hb]
    exact I1.fpOk (Nat.le_refl _) (I1.hok.fresh (Nat.le_refl _))
  rcases q1 with ⟨a, e, ⟨xs, hq⟩, q⟩ | ⟨a, e, ⟨xs, hq⟩, q⟩
  · subst e
    cases r1
    obtain ⟨its, rv, p, hz⟩ := I1.list hq
    exact wpAny_pyIter_list p.isList ⟨s1.heap.objs.size, [s1.heap.objs.size], _, _, H1, rfl, I1.kept (t' := s1.toks) fun b o e => Heap.get?_push_of_some _ e, turn_list a _, ⟨_, Heap.get?_push_size _ rfl, rfl, rfl⟩, fp, q⟩
  · subst e
    cases r1
    obtain ⟨its, rv, p, hz⟩ := I1.tuple hq
    exact wpAny_pyIter_tuple (show s1.heap.IsTuple a its.toArray from p) ⟨s1.heap.objs.size, [s1.heap.objs.size], _, _, H1, rfl, I1.kept (t' := s1.toks) fun b o e => Heap.get?_push_of_some _ e, turn_tuple a _, ⟨_, Heap.get?_push_size _ rfl, rfl, rfl⟩, fp, q⟩
end Mi

/-! Mi5b: what is walked, targets, comprehensions, by data. -/
namespace Mi
open PySem PySem.Spec PyProof.Rows L2

structure WalkD (K : PySem.W.Frag) (J : It) (ds : List D) (F : Hp) : Prop where
  go : ∀ i F1 H1, Ex F F1 → Ex F1 H1 → i < ds.length → J.go i H1
  yld : ∀ i F1 H1 x H2 d, Ex F F1 → Ex F1 H1 → ds[i]? = some d → J.yld i H1 x H2 → ∃ F2, Gr F1 H1 F2 H2 ∧ Rep K F2 d x
  stop : ∀ F1 H1, Ex F F1 → Ex F1 H1 → J.stop ds.length H1
def SemI (K : PySem.W.Frag) (wi : TI) (fi : E → Option (List D)) : Prop := ∀ F H σ ρ, Ex F H → RE K F σ ρ → ∀ ds, fi ρ = some ds → ∀ R : It → Hp → Prop, (∀ J F' H', Gr F H F' H' → WalkD K J ds F' → R J H') → wi σ H R
/-! targets -/
def RepW (K : PySem.W.Frag) (F : Hp) : List (Nat × D) → List (Nat × V) → Prop
  | [], us => us = []
  | (k, d) :: ws, us => ∃ v r, us = (k, v) :: r ∧ Rep K F d v ∧ RepW K F ws r
def putS (σ : L2.St) (us : List (Nat × V)) : L2.St := us.foldl (fun σ p => σ.set p.1 (some p.2)) σ
def putE (ρ : E) (ws : List (Nat × D)) : E := ws.foldl (fun ρ p => ρ.set p.1 (some p.2)) ρ
abbrev FG := D → Option (List (Nat × D))
def SemG (K : PySem.W.Frag) (g : TG) (tg : FG) : Prop := ∀ F H σ d v ws, Ex F H → Rep K F d v → tg d = some ws → ∀ Q : L2.St → Hp → Prop, (∀ us, RepW K F ws us → Q (putS σ us) H) → g v σ H Q
def SemGs (K : PySem.W.Frag) (g : TGs) (tg : List D → Option (List (Nat × D))) : Prop := ∀ F H σ d v ws, Ex F H → Reps K F d v → tg d = some ws → ∀ Q : L2.St → Hp → Prop, (∀ us, RepW K F ws us → Q (putS σ us) H) → g v σ H Q
def gN (i : Nat) : FG := fun d => some [(i, d)]
def gsN : List D → Option (List (Nat × D))
  | [] => some []
  | _ => none
def gsC (g : FG) (gs : List D → Option (List (Nat × D))) : List D → Option (List (Nat × D))
  | d :: ds => (g d).bind fun w => (gs ds).bind fun ws => some (w ++ ws)
  | [] => none
def gT (gs : List D → Option (List (Nat × D))) : FG := fun d => match d with
  | .tup xs => gs xs
  | _ => none
section
variable {K : PySem.W.Frag} {F : Hp}
theorem RepW.app : ∀ {ws zs : List (Nat × D)} {us ys : List (Nat × V)}, RepW K F ws us → RepW K F zs ys → RepW K F (ws ++ zs) (us ++ ys)
  | [], _, _, _, h, q => by
    have h : _ = [] := h
    rw [h]
    exact q
  | (k, d) :: ws, _, _, _, h, q => by
    obtain ⟨v, r, rfl, h1, h2⟩ := h
    exact ⟨v, _, rfl, h1, h2.app q⟩
theorem RepW.m {F' : Hp} (e : Ex F F') : ∀ {ws : List (Nat × D)} {us : List (Nat × V)}, RepW K F ws us → RepW K F' ws us
  | [], _, h => h
  | (k, d) :: ws, _, h => by
    obtain ⟨v, r, rfl, h1, h2⟩ := h
    exact ⟨v, r, rfl, h1.m e, h2.m e⟩
theorem RepW.ix : ∀ {ws : List (Nat × D)} {us : List (Nat × V)}, RepW K F ws us → us.map (·.1) = ws.map (·.1)
  | [], _, h => by
    have h : _ = [] := h
    rw [h]
    rfl
  | (k, d) :: ws, _, h => by
    obtain ⟨v, r, rfl, h1, h2⟩ := h
    simp [h2.ix]
theorem putS_len (us : List (Nat × V)) : ∀ σ : L2.St, (putS σ us).length = σ.length := by
  induction us with
  | nil => intro σ; rfl
  | cons u us ih => intro σ; exact (ih _).trans (List.length_set ..)
theorem RE.set {σ : L2.St} {ρ : E} {i : Nat} {d : D} {v : V} (r : RE K F σ ρ) (h : Rep K F d v) : RE K F (σ.set i (some v)) (ρ.set i (some d)) := by
  refine ⟨by simp [r.len], fun j e q => ?_⟩
  by_cases hj : i = j
  · subst hj
    have hl : i < ρ.length := by
      have z := (List.getElem?_eq_some_iff.mp q).1
      simpa using z
    rw [List.getElem?_set_self hl] at q
    cases q
    exact ⟨v, by rw [List.getElem?_set_self (by rw [← r.len]; exact hl)], h⟩
  · rw [List.getElem?_set_ne hj] at q ⊢
    exact r.at_ j e q
theorem RE.put : ∀ {ws : List (Nat × D)} {us : List (Nat × V)} {σ : L2.St} {ρ : E}, RE K F σ ρ → RepW K F ws us → RE K F (putS σ us) (putE ρ ws)
  | [], _, _, _, r, h => by
    have h : _ = [] := h
    rw [h]
    exact r
  | (k, d) :: ws, _, _, _, r, h => by
    obtain ⟨v, q, rfl, h1, h2⟩ := h
    exact (r.set h1).put h2
theorem sem_gN {i : Nat} : SemG K (gName i) (gN i) := fun F H σ d v ws e r h Q q => by
  cases h
  exact q [(i, v)] ⟨v, [], rfl, r, rfl⟩
theorem sem_gsN : SemGs K gNil gsN := fun F H σ d v ws e r h Q q => by
  unfold gsN at h
  split at h
  · cases h
    exact ⟨reps_nil.mp r, q [] rfl⟩
  · cases h
theorem sem_gsC {t : TG} {u : TGs} {g : FG} {gs : List D → Option (List (Nat × D))} (h1 : SemG K t g) (h2 : SemGs K u gs) : SemGs K (gCons t u) (gsC g gs) := fun F H σ d v ws e r h Q q => by
  unfold gsC at h
  split at h
  · obtain ⟨w1, e1, h⟩ := Option.bind_eq_some_iff.mp h
    obtain ⟨w2, e2, h⟩ := Option.bind_eq_some_iff.mp h
    cases h
    obtain ⟨x, xs, rfl, a, b⟩ := reps_cons.mp r
    refine ⟨x, xs, rfl, h1 F H σ _ x w1 e a e1 _ fun us1 p1 => ?_⟩
    refine h2 F H _ _ xs w2 e b e2 _ fun us2 p2 => ?_
    have z := q (us1 ++ us2) (p1.app p2)
    rw [putS, List.foldl_append] at z
    exact z
  · cases h
theorem sem_gT {n : Nat} {u : TGs} {gs : List D → Option (List (Nat × D))} (h : SemGs K u gs) (hn : ∀ xs ws, gs xs = some ws → xs.length = n) : SemG K (gTup K n u) (gT gs) := fun F H σ d v ws e r hd Q q => by
  unfold gT at hd
  split at hd
  · obtain ⟨a, vs, rfl, h1, h2⟩ := rep_tup.mp r
    exact ⟨a, vs, rfl, .of (e _ _ h1), by rw [← h2.len]; exact hn _ _ hd, h F H σ _ vs ws e h2 hd Q q⟩
  · cases hd
/-! the iterables -/
theorem walk_l {a : Addr} {ds : List D} {vs : List V} (h : SqL K F a vs) (r : Reps K F ds vs) : WalkD K (Itl K a) ds F where
  go := fun i F1 H1 e1 e2 hi => by
    obtain ⟨v, hv, _⟩ := r.get (List.getElem?_eq_getElem hi)
    exact ⟨vs, v, (e1.trans e2).l h, hv⟩
  yld := fun i F1 H1 x H2 d e1 e2 hd ⟨e, hx⟩ => by
    subst e
    obtain ⟨v, hv, rv⟩ := r.get hd
    rw [hx vs ((e1.trans e2).l h)] at hv
    cases hv
    exact ⟨F1, .refl e2, rv.m e1⟩
  stop := fun F1 H1 e1 e2 => ⟨vs, (e1.trans e2).l h, by rw [r.len]; exact Nat.le_refl _⟩
theorem walk_t {a : Addr} {ds : List D} {vs : List V} (h : SqT K F a vs) (r : Reps K F ds vs) : WalkD K (Itt K a) ds F where
  go := fun i F1 H1 e1 e2 hi => by
    obtain ⟨v, hv, _⟩ := r.get (List.getElem?_eq_getElem hi)
    exact ⟨vs, v, (e1.trans e2).t h, hv⟩
  yld := fun i F1 H1 x H2 d e1 e2 hd ⟨e, hx⟩ => by
    subst e
    obtain ⟨v, hv, rv⟩ := r.get hd
    rw [hx vs ((e1.trans e2).t h)] at hv
    cases hv
    exact ⟨F1, .refl e2, rv.m e1⟩
  stop := fun F1 H1 e1 e2 => ⟨vs, (e1.trans e2).t h, by rw [r.len]; exact Nat.le_refl _⟩
def fSeq (fe : FE) : E → Option (List D) := fun ρ => (fe ρ).bind D.seq?
theorem sem_iSeq {tl : TE} {fe : FE} (h : SemE K tl fe) : SemI K (iSeq K tl) (fSeq fe) := fun F H σ ρ e r ds hd R q => by
  obtain ⟨d, h1, h2⟩ := Option.bind_eq_some_iff.mp hd
  refine h F H σ ρ e r d h1 _ fun v F1 H1 g1 r1 => ?_
  obtain ⟨a, vs, rfl, hs, rs⟩ := rep_seq r1 h2
  rcases hs with hs | hs
  · exact .inl ⟨a, rfl, ⟨vs, g1.fh.l hs⟩, q _ F1 H1 g1 (walk_l hs rs)⟩
  · exact .inr ⟨a, rfl, ⟨vs, g1.fh.t hs⟩, q _ F1 H1 g1 (walk_t hs rs)⟩
def rngD (lo : Int) (n : Nat) : List D := (List.range n).map fun i => .int (lo + (i : Nat))
theorem walk_r {lo : Int} {n : Nat} : WalkD K (Itr lo n) (rngD lo n) F where
  go := fun i F1 H1 e1 e2 hi => by simpa [rngD, Itr] using hi
  yld := fun i F1 H1 x H2 d e1 e2 hd ⟨e, hx⟩ => by
    subst e
    have hx : x = V.int (lo + (i : Nat)) := hx
    subst hx
    refine ⟨F1, .refl e2, ?_⟩
    unfold rngD at hd
    rw [List.getElem?_map] at hd
    obtain ⟨j, hj, rfl⟩ := Option.map_eq_some_iff.mp hd
    obtain ⟨_, e⟩ := List.getElem?_eq_some_iff.mp hj
    simp at e
    subst e
    exact rep_int.mpr rfl
  stop := fun F1 H1 e1 e2 => by simp [rngD, Itr]
noncomputable def fRng1 (fa : E → Option (List D)) : E → Option (List D) := fun ρ => (fa ρ).bind fun xs => match xs with
  | [.int n] => @ite _ (-(2 ^ 62) ≤ n ∧ n < 2 ^ 62) (Classical.propDecidable _) (some (rngD 0 n.toNat)) none
  | _ => none
theorem sem_iRng1 {ta : TA} {fa : E → Option (List D)} (h : SemA K ta fa) : SemI K (iRng1 ta) (fRng1 fa) := fun F H σ ρ e r ds hd R q => by
  obtain ⟨xs, h1, h2⟩ := Option.bind_eq_some_iff.mp hd
  refine h F H σ ρ e r xs h1 _ fun v F1 H1 g1 r1 => ?_
  split at h2
  · split at h2
    · rename_i n hn
      cases h2
      obtain ⟨v, rfl, rv⟩ := one_of r1
      exact ⟨n, by rw [rep_int.mp rv], hn.1, hn.2, q _ F1 H1 g1 walk_r⟩
    · cases h2
  · cases h2
noncomputable def fRng2 (fa : E → Option (List D)) : E → Option (List D) := fun ρ => (fa ρ).bind fun xs => match xs with
  | [.int m, .int n] => @ite _ (-(2 ^ 62) ≤ m ∧ m < 2 ^ 62 ∧ -(2 ^ 62) ≤ n ∧ n < 2 ^ 62) (Classical.propDecidable _) (some (rngD m (n - m).toNat)) none
  | _ => none
theorem sem_iRng2 {ta : TA} {fa : E → Option (List D)} (h : SemA K ta fa) : SemI K (iRng2 ta) (fRng2 fa) := fun F H σ ρ e r ds hd R q => by
  obtain ⟨xs, h1, h2⟩ := Option.bind_eq_some_iff.mp hd
  refine h F H σ ρ e r xs h1 _ fun v F1 H1 g1 r1 => ?_
  split at h2
  · split at h2
    · rename_i m n hn
      cases h2
      obtain ⟨v, u, rfl, rv, ru⟩ := two_of r1
      exact ⟨m, n, by rw [rep_int.mp rv, rep_int.mp ru], hn, q _ F1 H1 g1 walk_r⟩
    · cases h2
  · cases h2
def enumD (i : Nat) : List D → List D
  | [] => []
  | d :: ds => .tup [.int (i : Nat), d] :: enumD (i + 1) ds
theorem enumD_len : ∀ (ds : List D) (i : Nat), (enumD i ds).length = ds.length
  | [], _ => rfl
  | d :: ds, i => by simp [enumD, enumD_len ds]
theorem enumD_get : ∀ (ds : List D) (i j : Nat) (e : D), (enumD i ds)[j]? = some e → ∃ d, ds[j]? = some d ∧ e = .tup [.int ((i + j : Nat)), d]
  | [], _, _, _, h => by simp [enumD] at h
  | d :: ds, i, 0, e, h => by
    simp [enumD] at h
    exact ⟨d, by simp, h.symm⟩
  | d :: ds, i, j + 1, e, h => by
    simp [enumD] at h
    obtain ⟨d', h1, h2⟩ := enumD_get ds (i + 1) j e h
    exact ⟨d', by simpa using h1, by rw [h2, show i + 1 + j = i + (j + 1) by omega]⟩
theorem pair_new {F1 H1 : Hp} {T : Addr} {x y : V} {a b : D} (e : Ex F1 H1) (h : H1 T = none) (ra : Rep K F1 a x) (rb : Rep K F1 b y) : ∃ F2, Gr F1 H1 F2 (upd H1 T (.tup [x, y])) ∧ Rep K F2 (.tup [a, b]) (.ref T) :=
  ⟨_, .new e h, rep_tup.mpr ⟨T, _, rfl, upd_same, (Reps.cons ra (.one rb)).m (.new (e.free h))⟩⟩
theorem walk_el {a : Addr} {ds : List D} {vs : List V} (h : SqL K F a vs) (r : Reps K F ds vs) : WalkD K (Ite K a) (enumD 0 ds) F where
  go := fun i F1 H1 e1 e2 hi => by
    rw [enumD_len] at hi
    obtain ⟨v, hv, _⟩ := r.get (List.getElem?_eq_getElem hi)
    exact ⟨vs, v, (e1.trans e2).l h, hv⟩
  yld := fun i F1 H1 x H2 d e1 e2 hd ⟨T, y, ex, hT, eH, hy⟩ => by
    obtain ⟨d', h1, rfl⟩ := enumD_get ds 0 i d hd
    obtain ⟨v, hv, rv⟩ := r.get h1
    rw [hy vs ((e1.trans e2).l h)] at hv
    cases hv
    rw [ex, eH, Nat.zero_add]
    exact pair_new e2 hT (rep_int.mpr rfl) (rv.m e1)
  stop := fun F1 H1 e1 e2 => ⟨vs, (e1.trans e2).l h, by rw [enumD_len, r.len]; exact Nat.le_refl _⟩
theorem walk_et {a : Addr} {ds : List D} {vs : List V} (h : SqT K F a vs) (r : Reps K F ds vs) : WalkD K (IteT K a) (enumD 0 ds) F where
  go := fun i F1 H1 e1 e2 hi => by
    rw [enumD_len] at hi
    obtain ⟨v, hv, _⟩ := r.get (List.getElem?_eq_getElem hi)
    exact ⟨vs, v, (e1.trans e2).t h, hv⟩
  yld := fun i F1 H1 x H2 d e1 e2 hd ⟨T, y, ex, hT, eH, hy⟩ => by
    obtain ⟨d', h1, rfl⟩ := enumD_get ds 0 i d hd
    obtain ⟨v, hv, rv⟩ := r.get h1
    rw [hy vs ((e1.trans e2).t h)] at hv
    cases hv
    rw [ex, eH, Nat.zero_add]
    exact pair_new e2 hT (rep_int.mpr rfl) (rv.m e1)
  stop := fun F1 H1 e1 e2 => ⟨vs, (e1.trans e2).t h, by rw [enumD_len, r.len]⟩
def fEnum (fa : E → Option (List D)) : E → Option (List D) := fun ρ => (fa ρ).bind fun xs => match xs with
  | [d] => d.seq?.map (enumD 0)
  | _ => none
theorem sem_iEnum {ta : TA} {fa : E → Option (List D)} (h : SemA K ta fa) : SemI K (iEnumA K ta) (fEnum fa) := fun F H σ ρ e r ds hd R q => by
  obtain ⟨xs, h1, h2⟩ := Option.bind_eq_some_iff.mp hd
  refine h F H σ ρ e r xs h1 _ fun v F1 H1 g1 r1 => ?_
  split at h2
  · obtain ⟨ys, h3, rfl⟩ := Option.map_eq_some_iff.mp h2
    obtain ⟨v, rfl, rv⟩ := one_of r1
    obtain ⟨a, vs, rfl, hs, rs⟩ := rep_seq rv h3
    rcases hs with hs | hs
    · exact .inl ⟨a, vs, rfl, g1.fh.l hs, q _ F1 H1 g1 (walk_el hs rs)⟩
    · exact .inr ⟨a, vs, rfl, g1.fh.t hs, q _ F1 H1 g1 (walk_et hs rs)⟩
  · cases h2
def zipD : List D → List D → List D
  | a :: as, b :: bs => .tup [a, b] :: zipD as bs
  | _, _ => []
theorem zipD_get : ∀ (ds es : List D) (j : Nat) (e : D), (zipD ds es)[j]? = some e → ∃ a b, ds[j]? = some a ∧ es[j]? = some b ∧ e = .tup [a, b]
  | [], _, _, _, h => by simp [zipD] at h
  | _ :: _, [], _, _, h => by simp [zipD] at h
  | a :: as, b :: bs, 0, e, h => by
    simp [zipD] at h
    exact ⟨a, b, by simp, by simp, h.symm⟩
  | a :: as, b :: bs, j + 1, e, h => by
    simp [zipD] at h
    obtain ⟨a', b', h1, h2, h3⟩ := zipD_get as bs j e h
    exact ⟨a', b', by simpa using h1, by simpa using h2, h3⟩
theorem zipD_len : ∀ (ds es : List D), (zipD ds es).length = min ds.length es.length
  | [], _ => by simp [zipD]
  | _ :: _, [] => by simp [zipD]
  | a :: as, b :: bs => by simp [zipD, zipD_len as bs]
theorem walk_zl {a b : Addr} {ds es : List D} {vs us : List V} (h : SqL K F a vs) (h' : SqL K F b us) (r : Reps K F ds vs) (r' : Reps K F es us) : WalkD K (Itz K a b) (zipD ds es) F where
  go := fun i F1 H1 e1 e2 hi => by
    rw [zipD_len] at hi
    obtain ⟨v, hv, _⟩ := r.get (List.getElem?_eq_getElem (show i < ds.length by omega))
    obtain ⟨u, hu, _⟩ := r'.get (List.getElem?_eq_getElem (show i < es.length by omega))
    exact ⟨vs, us, v, u, (e1.trans e2).l h, (e1.trans e2).l h', hv, hu⟩
  yld := fun i F1 H1 x H2 d e1 e2 hd ⟨T, y, z, ex, hT, eH, hy, hz⟩ => by
    obtain ⟨a', b', h1, h2, rfl⟩ := zipD_get ds es i d hd
    obtain ⟨v, hv, rv⟩ := r.get h1
    obtain ⟨u, hu, ru⟩ := r'.get h2
    rw [hy vs ((e1.trans e2).l h)] at hv
    rw [hz us ((e1.trans e2).l h')] at hu
    cases hv; cases hu
    rw [ex, eH]
    exact pair_new e2 hT (rv.m e1) (ru.m e1)
  stop := fun F1 H1 e1 e2 => ⟨vs, us, (e1.trans e2).l h, (e1.trans e2).l h', by rw [zipD_len, r.len, r'.len]; omega⟩
theorem walk_zt {a b : Addr} {ds es : List D} {vs us : List V} (h : SqT K F a vs) (h' : SqT K F b us) (r : Reps K F ds vs) (r' : Reps K F es us) : WalkD K (RZ.ItzT K a b) (zipD ds es) F where
  go := fun i F1 H1 e1 e2 hi => by
    rw [zipD_len] at hi
    obtain ⟨v, hv, _⟩ := r.get (List.getElem?_eq_getElem (show i < ds.length by omega))
    obtain ⟨u, hu, _⟩ := r'.get (List.getElem?_eq_getElem (show i < es.length by omega))
    exact ⟨vs, us, v, u, (e1.trans e2).t h, (e1.trans e2).t h', hv, hu⟩
  yld := fun i F1 H1 x H2 d e1 e2 hd ⟨T, y, z, ex, hT, eH, hy, hz⟩ => by
    obtain ⟨a', b', h1, h2, rfl⟩ := zipD_get ds es i d hd
    obtain ⟨v, hv, rv⟩ := r.get h1
    obtain ⟨u, hu, ru⟩ := r'.get h2
    rw [hy vs ((e1.trans e2).t h)] at hv
    rw [hz us ((e1.trans e2).t h')] at hu
    cases hv; cases hu
    rw [ex, eH]
    exact pair_new e2 hT (rv.m e1) (ru.m e1)
  stop := fun F1 H1 e1 e2 => ⟨vs, us, (e1.trans e2).t h, (e1.trans e2).t h', by rw [zipD_len, r.len, r'.len]; omega⟩
def D.lq? : D → Option (List D)
  | .lst xs => some xs
  | .sl xs => some xs
  | _ => none
def D.tq? : D → Option (List D)
  | .tup xs => some xs
  | .kt xs => some xs
  | _ => none
theorem rep_lq {H : Hp} {d : D} {xs : List D} {v : V} (h : Rep K H d v) (e : d.lq? = some xs) : ∃ a vs, v = .ref a ∧ SqL K H a vs ∧ Reps K H xs vs := by
  cases d <;> simp only [D.lq?, Option.some.injEq, reduceCtorEq] at e <;> subst e
  · obtain ⟨a, vs, h1, h2, h3⟩ := rep_lst.mp h
    exact ⟨a, vs, h1, .of h2, h3⟩
  · obtain ⟨a, vs, h1, h2, h3⟩ := rep_sl.mp h
    exact ⟨a, vs, h1, h2, h3⟩
theorem rep_tq {H : Hp} {d : D} {xs : List D} {v : V} (h : Rep K H d v) (e : d.tq? = some xs) : ∃ a vs, v = .ref a ∧ SqT K H a vs ∧ Reps K H xs vs := by
  cases d <;> simp only [D.tq?, Option.some.injEq, reduceCtorEq] at e <;> subst e
  · obtain ⟨a, vs, h1, h2, h3⟩ := rep_tup.mp h
    exact ⟨a, vs, h1, .of h2, h3⟩
  · obtain ⟨a, vs, h1, h2, h3⟩ := rep_ktl h
    exact ⟨a, vs, h1, h2, h3⟩
def fZip (fa : E → Option (List D)) : E → Option (List D) := fun ρ => (fa ρ).bind fun xs => match xs with
  | [c, d] => match c.tq?, d.tq? with
    | some xs, some ys => some (zipD xs ys)
    | _, _ => c.lq?.bind fun xs => d.lq?.bind fun ys => some (zipD xs ys)
  | _ => none
theorem sem_iZip {ta : TA} {fa : E → Option (List D)} (h : SemA K ta fa) : SemI K (RZ.iZipA K ta) (fZip fa) := fun F H σ ρ e r ds hd R q => by
  obtain ⟨xs, h1, h2⟩ := Option.bind_eq_some_iff.mp hd
  refine h F H σ ρ e r xs h1 _ fun v F1 H1 g1 r1 => ?_
  split at h2
  · obtain ⟨v, u, rfl, rv, ru⟩ := two_of r1
    split at h2
    · rename_i xs ys e1 e2
      cases h2
      obtain ⟨a, vs, rfl, hs, rs⟩ := rep_tq rv e1
      obtain ⟨b, us, rfl, hs', rs'⟩ := rep_tq ru e2
      exact ⟨a, b, vs, us, rfl, .inr ⟨g1.fh.t hs, g1.fh.t hs', q _ F1 H1 g1 (walk_zt hs hs' rs rs')⟩⟩
    · obtain ⟨xs, e1, h2⟩ := Option.bind_eq_some_iff.mp h2
      obtain ⟨ys, e2, h2⟩ := Option.bind_eq_some_iff.mp h2
      cases h2
      obtain ⟨a, vs, rfl, hs, rs⟩ := rep_lq rv e1
      obtain ⟨b, us, rfl, hs', rs'⟩ := rep_lq ru e2
      exact ⟨a, b, vs, us, rfl, .inl ⟨g1.fh.l hs, g1.fh.l hs', q _ F1 H1 g1 (walk_zl hs hs' rs rs')⟩⟩
  · cases h2
/-! wiped slots -/
def wipeE (ρ : E) : List Nat → E
  | [] => ρ
  | v :: vs => (wipeE ρ vs).set v none
theorem wipe_get (σ : L2.St) (i : Nat) : ∀ vs : List Nat, (wipe σ vs)[i]? = if i ∈ vs ∧ i < σ.length then some none else σ[i]?
  | [] => by simp [wipe]
  | v :: vs => by
    unfold wipe
    rw [List.getElem?_set, wipe_length, wipe_get σ i vs]
    by_cases h1 : v = i
    · subst h1
      by_cases h2 : v < σ.length
      · simp [h2]
      · simp [h2, List.getElem?_eq_none (Nat.le_of_not_lt h2)]
    · have h3 : ¬ i = v := fun z => h1 z.symm
      simp [h1, h3]
theorem wipeE_get (ρ : E) (i : Nat) : ∀ vs : List Nat, (wipeE ρ vs)[i]? = if i ∈ vs ∧ i < ρ.length then some none else ρ[i]?
  | [] => by simp [wipeE]
  | v :: vs => by
    have hl : (wipeE ρ vs).length = ρ.length := by
      clear v
      induction vs with
      | nil => rfl
      | cons w ws ih => unfold wipeE; rw [List.length_set, ih]
    unfold wipeE
    rw [List.getElem?_set, hl, wipeE_get ρ i vs]
    by_cases h1 : v = i
    · subst h1
      by_cases h2 : v < ρ.length
      · simp [h2]
      · simp [h2, List.getElem?_eq_none (Nat.le_of_not_lt h2)]
    · have h3 : ¬ i = v := fun z => h1 z.symm
      simp [h1, h3]
theorem wipeE_len (ρ : E) : ∀ vs : List Nat, (wipeE ρ vs).length = ρ.length
  | [] => rfl
  | v :: vs => by unfold wipeE; rw [List.length_set, wipeE_len ρ vs]
theorem RE.wipe {σ : L2.St} {ρ : E} (r : RE K F σ ρ) (vs : List Nat) : RE K F (L2.wipe σ vs) (wipeE ρ vs) := by
  refine ⟨by rw [wipeE_len, wipe_length, r.len], fun i d h => ?_⟩
  rw [wipeE_get] at h
  rw [wipe_get, ← r.len]
  split at h
  · cases h
  · rename_i hn
    rw [if_neg hn]
    exact r.at_ i d h
theorem putS_get (us : List (Nat × V)) : ∀ (σ : L2.St) (i : Nat), i ∉ us.map (·.1) → (putS σ us)[i]? = σ[i]? := by
  induction us with
  | nil => intro σ i _; rfl
  | cons u us ih =>
    intro σ i h
    simp only [List.map_cons, List.mem_cons, not_or] at h
    exact (ih _ i h.2).trans (List.getElem?_set_ne fun z => h.1 z.symm)
theorem wipe_put {σ : L2.St} {us : List (Nat × V)} {vs : List Nat} (h : ∀ p ∈ us.map (·.1), p ∈ vs) : L2.wipe (putS (L2.wipe σ vs) us) vs = L2.wipe σ vs := by
  apply List.ext_getElem?
  intro i
  rw [wipe_get, wipe_get, putS_len, wipe_length]
  by_cases hi : i ∈ vs
  · by_cases hl : i < σ.length
    · simp [hi, hl]
    · simp only [hl, and_false, if_false]
      rw [List.getElem?_eq_none (by rw [putS_len, wipe_length]; exact Nat.le_of_not_lt hl), List.getElem?_eq_none (Nat.le_of_not_lt hl)]
  · simp only [hi, false_and, if_false]
    rw [putS_get _ _ _ (fun z => hi (h i z)), wipe_get]
    simp [hi]
end
end Mi

/-! Mi6: comprehensions by data; the rules, syntax and data together. -/
namespace Mi
open PySem PySem.Spec PyProof.Rows L2
def lcF (tg : FG) (fc : E → Option Bool) (fe : FE) (ρ : E) : List D → Option (List D)
  | [] => some []
  | d :: ds => (tg d).bind fun ws => (fc (putE ρ ws)).bind fun b => if b then (fe (putE ρ ws)).bind fun y => (lcF tg fc fe ρ ds).bind fun ys => some (y :: ys) else lcF tg fc fe ρ ds
def fLc (fi : E → Option (List D)) (tg : FG) (fc : E → Option Bool) (fe : FE) (vs : List Nat) : E → Option O := fun ρ =>
  (fi ρ).bind fun ds => if ds.length ≤ 50000 then (lcF tg fc fe (wipeE ρ vs) ds).map .l else none
def fYes : E → Option Bool := fun _ => some true
section
variable {K : PySem.W.Frag}
theorem sem_yes : SemT K tYes fYes := fun F H σ ρ e r d h Q q => by
  cases h
  exact q F H (.refl e)
theorem lc_go {J : It} {g : TG} {tt : TT} {te : TE} {vs : List Nat} {tg : FG} {fc : E → Option Bool} {fe : FE} (hg : SemG K g tg) (ht : SemT K tt fc) (he : SemE K te fe)
    (hw : ∀ d ws, tg d = some ws → ∀ p ∈ ws.map (·.1), p ∈ vs) {F1 H1 : Hp} {σ : L2.St} {ρ : E} {ds ys : List D} {Dl : Addr} {Q : VK} (e1 : Ex F1 H1) (r : RE K F1 σ ρ) (wk : WalkD K J ds F1) (h3 : lcF tg fc fe (wipeE ρ vs) ds = some ys) (hlen : ds.length ≤ 50000) (hD : H1 Dl = none)
    (q : ∀ av F2 H2, Gr F1 H1 F2 H2 → F2 Dl = none → H2 Dl = some (.lst av) → Reps K F2 ys av → Q (.ref Dl) H2) :
    ∃ W : Nat → Nat → Hp → Prop, (∃ m, W 0 m (upd H1 Dl (.lst []))) ∧ ∀ i m H, W i m H →
      (J.stop i H ∧ Q (.ref Dl) H) ∨ (J.go i H ∧ ∃ Nx : Hp → Prop, (∀ H', Nx H' → ∃ m', m' < m ∧ W (i + 1) m' H') ∧ ∀ x H', J.yld i H x H' → g x (L2.wipe σ vs) H' fun σ2 H2 => L2.wipe σ2 vs = L2.wipe σ vs ∧ tt σ2 H2 fun b H3 =>
        if b = true then te σ2 H3 fun y H4 => ∃ acc, H4 Dl = some (.lst acc) ∧ acc.length < sizeLine ∧ Nx (upd H4 Dl (.lst (acc ++ [y]))) else Nx H3) := by
    have g1 := Gr.refl e1
    refine ⟨fun i m H2 => m = ds.length - i ∧ i ≤ ds.length ∧ ∃ F2 av ad rest, Gr F1 H1 F2 H2 ∧ F2 Dl = none ∧ H2 Dl = some (.lst av) ∧ Reps K F2 ad av ∧ ad.length ≤ i ∧ lcF tg fc fe (wipeE ρ vs) (ds.drop i) = some rest ∧ ys = ad ++ rest,
      ⟨ds.length, by simp, Nat.zero_le _, F1, [], [], ys, .off g1.fh hD, g1.fh.free hD, upd_same, .nil, Nat.le_refl _, by simpa using h3, rfl⟩, ?_⟩
    rintro i m H2 ⟨rfl, hi', F2, av, ad, rest, g2, n2, hd2, ra, hal, hr, hys⟩
    by_cases hlt : i < ds.length
    · refine .inr ⟨wk.go i F2 H2 g2.ff g2.fh hlt, fun H3 => ∃ F2 av ad rest, Gr F1 H1 F2 H3 ∧ F2 Dl = none ∧ H3 Dl = some (.lst av) ∧ Reps K F2 ad av ∧ ad.length ≤ i + 1 ∧ lcF tg fc fe (wipeE ρ vs) (ds.drop (i + 1)) = some rest ∧ ys = ad ++ rest,
        fun H3 hN => ⟨ds.length - (i + 1), by omega, rfl, by omega, hN⟩, fun x H3 hy => ?_⟩
      have hdi : ds[i]? = some ds[i] := List.getElem?_eq_getElem hlt
      obtain ⟨F3, g3, r3⟩ := wk.yld i F2 H2 x H3 ds[i] g2.ff g2.fh hdi hy
      rw [List.drop_eq_getElem_cons hlt] at hr
      obtain ⟨ws, e1, hr⟩ := Option.bind_eq_some_iff.mp hr
      obtain ⟨b, e2, hr⟩ := Option.bind_eq_some_iff.mp hr
      refine hg F3 H3 _ ds[i] x ws g3.fh r3 e1 _ fun us ru => ⟨wipe_put (by rw [ru.ix]; exact hw _ _ e1), ?_⟩
      have re : RE K F3 (putS (L2.wipe σ vs) us) (putE (wipeE ρ vs) ws) := ((r.m ((g1.trans g2).trans g3).ff).wipe vs).put ru
      refine ht F3 H3 _ _ g3.fh re b e2 _ fun F4 H4 g4 => ?_
      have g24 := g3.trans g4
      have n4 : F4 Dl = none := (g24.fr _ _ hd2).trans n2
      cases b with
      | true =>
        obtain ⟨y, e3, hr⟩ := Option.bind_eq_some_iff.mp hr
        obtain ⟨rest', e4, hr⟩ := Option.bind_eq_some_iff.mp hr
        cases hr
        rw [if_pos rfl]
        refine he F4 H4 _ _ g4.fh (re.m g4.ff) y e3 _ fun yv F5 H5 g5 r5 => ?_
        have g25 := g24.trans g5
        have n5 : F5 Dl = none := (g25.fr _ _ hd2).trans n2
        have g15 := g2.trans g25
        refine ⟨av, g25.hh _ _ hd2, ?_, F5, av ++ [yv], ad ++ [y], rest', ⟨g15.f0, g15.ff, ?_, ?_, g15.fr⟩, n5, upd_same, (ra.m g25.ff).append (.one r5), ?_, e4, ?_⟩
        · rw [← ra.len]
          exact sz_lt (by omega)
        · intro a u qa
          rw [upd_ne (ne_of_none qa hD)]
          exact g15.hh a u qa
        · intro a u qa
          rw [upd_ne (ne_of_none qa n5)]
          exact g15.fh a u qa
        · rw [List.length_append]
          simp
          omega
        · rw [hys, List.append_assoc]
          rfl
      | false =>
        rw [if_neg Bool.false_ne_true]
        exact ⟨F4, av, ad, rest, g2.trans g24, n4, g24.hh _ _ hd2, ra.m g24.ff, by omega, hr, hys⟩
    · have ei : i = ds.length := by omega
      subst ei
      rw [List.drop_length] at hr
      cases hr
      rw [List.append_nil] at hys
      subst hys
      exact .inl ⟨wk.stop F2 H2 g2.ff g2.fh, q av F2 H2 g2 n2 hd2 ra⟩
theorem sem_lc {wi : TI} {g : TG} {tt : TT} {te : TE} {vs : List Nat} {fi : E → Option (List D)} {tg : FG} {fc : E → Option Bool} {fe : FE} (hi : SemI K wi fi) (hg : SemG K g tg) (ht : SemT K tt fc) (he : SemE K te fe)
    (hw : ∀ d ws, tg d = some ws → ∀ p ∈ ws.map (·.1), p ∈ vs) : SemN K (tLc wi g tt te vs) (fLc fi tg fc fe vs) := fun F H σ ρ e r o ho Q q => by
  obtain ⟨ds, h1, h2⟩ := Option.bind_eq_some_iff.mp ho
  split at h2
  · rename_i hlen
    obtain ⟨ys, h3, rfl⟩ := Option.map_eq_some_iff.mp h2
    refine hi F H σ ρ e r ds h1 _ fun J F1 H1 g1 wk => ?_
    intro Dl hD
    exact lc_go hg ht he hw g1.fh (r.m g1.ff) wk h3 hlen hD fun av F2 H2 g2 n2 hd2 ra => q Dl (.lst av) F2 H2 (g1.trans g2) (g1.hh.free hD) n2 hd2 ⟨av, rfl, ra⟩
  · cases h2
def keyD : Key → D
  | .inl i => .int i
  | .inr x => .str x
theorem rep_keyD {F : Hp} (k : Key) : Rep K F (keyD k) (kV k) := by
  cases k
  · exact rep_int.mpr rfl
  · exact rep_str.mpr rfl
/-- [.. for k in d], d a local dict that nothing in the comprehension reads; flat values -/
def fKeys (i : Nat) (tg : FG) (fe : FE) (vs : List Nat) : E → Option O := fun ρ => (eVar i ρ).bind fun d => match d with
  | .dK kvs => if kvs.length ≤ 50000 then (lcF tg fYes fe (wipeE (List.replicate ρ.length none) vs) (kvs.map fun kv => keyD kv.1)).bind fun ys => (flats ys).bind fun _ => some (.l ys) else none
  | _ => none
theorem reps_any {F F' : Hp} : ∀ {ds : List D} {xs vs : List V}, flats ds = some xs → Reps K F ds vs → Reps K F' ds vs
  | [], _, _, _, r => reps_nil.mpr (reps_nil.mp r)
  | d :: ds, _, _, e, r => by
    obtain ⟨v, h1, e⟩ := Option.bind_eq_some_iff.mp e
    obtain ⟨vs, h2, e⟩ := Option.bind_eq_some_iff.mp e
    obtain ⟨w, q, rfl, a, b⟩ := reps_cons.mp r
    refine .cons ?_ (reps_any h2 b)
    cases d <;> simp only [D.flat?, reduceCtorEq] at h1
    · exact rep_non.mpr (rep_non.mp a)
    · exact rep_bl.mpr (rep_bl.mp a)
    · exact rep_int.mpr (rep_int.mp a)
    · exact rep_str.mpr (rep_str.mp a)
theorem sem_lcK {i : Nat} {g : TG} {te : TE} {vs : List Nat} {tg : FG} {fe : FE} (hg : SemG K g tg) (he : SemE K te fe) (hw : ∀ d ws, tg d = some ws → ∀ p ∈ ws.map (·.1), p ∈ vs) :
    SemN K (tLockE (tLc (iKeys (tVar i)) g tYes te vs)) (fKeys i tg fe vs) := fun F H σ ρ e r o ho Q q => by
  obtain ⟨d, h1, h2⟩ := Option.bind_eq_some_iff.mp ho
  split at h2
  · rename_i kvs
    split at h2
    · rename_i hlen
      obtain ⟨ys, h3, h4⟩ := Option.bind_eq_some_iff.mp h2
      obtain ⟨fs, h5, h6⟩ := Option.bind_eq_some_iff.mp h4
      cases h6
      have hv : ρ[i]? = some (some (.dK kvs)) := by
        unfold eVar at h1
        cases z : ρ[i]? with
        | none => rw [z] at h1; cases h1
        | some o =>
          rw [z] at h1
          have h1 : o = some (.dK kvs) := h1
          rw [h1]
      obtain ⟨v, hs, rv⟩ := r.at_ i _ hv
      obtain ⟨a, us, rfl, ha, rk⟩ := rep_dK.mp rv
      have hH : H a = some (.dK us) := e _ _ ha
      refine ⟨a, .dK us, hH, True.intro, fun od => ?_⟩
      refine ⟨.ref a, hs, a, od, rfl, .inl ⟨us, upd_same, ?_⟩⟩
      intro Dl hD
      have hDa : Dl ≠ a := fun z => by
        rw [z, upd_same] at hD
        cases hD
      have hDH : H Dl = none := by rw [upd_ne hDa] at hD; exact hD
      have r0 : RE K (upd (fun _ => none) a (.frz od (.dK us))) σ (List.replicate ρ.length none) := ⟨by simp [r.len], fun j d q => by
        rw [List.getElem?_replicate] at q
        split at q <;> cases q⟩
      have wk : WalkD K (Itk a od us) (kvs.map fun kv => keyD kv.1) (upd (fun _ => none) a (.frz od (.dK us))) := by
        have hk : us.map (·.1) = kvs.map (·.1) := rk.keys
        refine ⟨fun j F1 H1 e1 e2 hj => ⟨e2 _ _ (e1 _ _ upd_same), ?_⟩, fun j F1 H1 x H2 d e1 e2 hd hy => ?_, fun F1 H1 e1 e2 => ⟨e2 _ _ (e1 _ _ upd_same), ?_⟩⟩
        · rw [List.length_map] at hj
          rw [← rk.len]
          exact hj
        · obtain ⟨eH, k, v, hkv, ex⟩ := hy
          rw [eH]
          refine ⟨F1, .refl e2, ?_⟩
          have e3 : (us.map (·.1))[j]? = some k := by rw [List.getElem?_map, hkv]; rfl
          rw [hk, List.getElem?_map] at e3
          rw [List.getElem?_map] at hd
          cases z : kvs[j]? with
          | none => rw [z] at hd; cases hd
          | some p =>
            rw [z] at hd e3
            have e4 : p.1 = k := Option.some.inj e3
            have e5 : keyD p.1 = d := Option.some.inj hd
            rw [← e5, e4, ex]
            exact rep_keyD k
        · rw [List.length_map, rk.len]
          exact Nat.le_refl _
      refine lc_go (Q := fun v H' => H' a = some (.frz od (.dK us)) ∧ Q v (upd H' a (.dK us))) hg sem_yes he hw (Ex.into (fun b u z => by simp at z) upd_same) r0 wk h3 (by simpa using hlen) hD fun av F2 H2 g2 n2 hd2 ra => ⟨g2.hh _ _ upd_same, ?_⟩
      refine q Dl (.lst av) F _ ⟨e, .refl _, ?_, ?_, fun _ _ _ => rfl⟩ hDH (e.free hDH) (by rw [upd_ne hDa]; exact hd2) ⟨av, rfl, reps_any h5 ra⟩
      · intro b u qb
        by_cases z : b = a
        · subst z
          rw [upd_same, ← hH, qb]
        · rw [upd_ne z]
          exact g2.hh b u (by rw [upd_ne z]; exact qb)
      · intro b u qb
        have qb := e b u qb
        by_cases z : b = a
        · subst z
          rw [upd_same, ← hH, qb]
        · rw [upd_ne z]
          exact g2.hh b u (by rw [upd_ne z]; exact qb)
    · cases h2
  · cases h2
end
end Mi

/-! Mi7: statements by data. -/
namespace Mi
open PySem PySem.Spec PyProof.Rows L2
inductive Slot where
  | no | sh (d : D) | ow (o : O)
abbrev SEnv := List Slot
def Slot.hid : Slot → Option D
  | .sh d => some d
  | _ => none
def Slot.full : Slot → Option D
  | .sh d => some d
  | .ow o => some o.d
  | .no => none
def hid (ρ : SEnv) : E := ρ.map Slot.hid
def full (ρ : SEnv) : E := ρ.map Slot.full
inductive Out where
  | nx (ρ : SEnv) | bk (ρ : SEnv) | ct (ρ : SEnv) | rt (d : D) | ex (x : Str)
structure RS (K : PySem.W.Frag) (F0 H0 F H : Hp) (σ : L2.St) (ρ : SEnv) : Prop where
  gr : Gr F0 H0 F H
  len : ρ.length = σ.length
  sh : ∀ (i : Nat) (d : D), ρ[i]? = some (.sh d) → ∃ v, σ[i]? = some (some v) ∧ Rep K F d v
  ow : ∀ (i : Nat) (o : O), ρ[i]? = some (.ow o) → ∃ a h, σ[i]? = some (some (.ref a)) ∧ H a = some h ∧ F a = none ∧ H0 a = none ∧ RepO K F o h
  dj : ∀ (i j : Nat) (o o' : O) (a : Addr), ρ[i]? = some (.ow o) → ρ[j]? = some (.ow o') → σ[i]? = some (some (.ref a)) → σ[j]? = some (some (.ref a)) → i = j
def End (K : PySem.W.Frag) (mg : Str → Option Value) (X : XK) (F0 H0 Fs : Hp) (Dn : Ends) : Out → Prop
  | .nx ρ => ∀ F H σ, RS K F0 H0 F H σ ρ → Ex Fs F → Dn.nx σ H
  | .bk ρ => ∀ F H σ, RS K F0 H0 F H σ ρ → Ex Fs F → Dn.bk σ H
  | .ct ρ => ∀ F H σ, RS K F0 H0 F H σ ρ → Ex Fs F → Dn.ct σ H
  | .rt d => ∀ F H v, Gr F0 H0 F H → Rep K F d v → Dn.rt v H
  | .ex x => ∀ F H C, Gr F0 H0 F H → mg x = some (.ref C) → X (.ref C) none H
abbrev FS := SEnv → Option Out
def SemS (K : PySem.W.Frag) (mg : Str → Option Value) (X : XK) (t : TS) (g : FS) : Prop := ∀ F0 H0 F H σ ρ, RS K F0 H0 F H σ ρ → ∀ o, g ρ = some o → ∀ Dn, End K mg X F0 H0 F Dn o → t Dn σ H
section
variable {K : PySem.W.Frag} {F0 H0 F H F1 H1 : Hp} {σ : L2.St} {ρ : SEnv}
theorem RS.fh (r : RS K F0 H0 F H σ ρ) : Ex F H := r.gr.fh
theorem RS.hid (r : RS K F0 H0 F H σ ρ) : RE K F σ (hid ρ) := ⟨by simp [Mi.hid, r.len], fun i d h => by
  unfold Mi.hid at h
  rw [List.getElem?_map] at h
  cases z : ρ[i]? with
  | none => rw [z] at h; cases h
  | some s =>
    rw [z] at h
    cases s with
    | sh d' =>
      have : d' = d := by simpa [Slot.hid] using h
      subst this
      exact r.sh i _ z
    | no => simp [Slot.hid] at h
    | ow o => simp [Slot.hid] at h⟩
theorem RepO.at_ {o : O} {h : HO} {a : Addr} (r : RepO K F o h) (e : Ex F H) (ha : H a = some h) : Rep K H o.d (.ref a) := by
  have r := r.m e
  cases o with
  | l xs => obtain ⟨vs, rfl, e2⟩ := r; exact rep_lst.mpr ⟨a, vs, rfl, ha, e2⟩
  | k xs => obtain ⟨vs, rfl, e2⟩ := r; exact rep_dK.mpr ⟨a, vs, rfl, ha, e2⟩
  | t xs => obtain ⟨vs, rfl, e2⟩ := r; exact rep_dT.mpr ⟨a, vs, rfl, ha, e2⟩
theorem RS.full (r : RS K F0 H0 F H σ ρ) : RE K H σ (full ρ) := ⟨by simp [Mi.full, r.len], fun i d h => by
  unfold Mi.full at h
  rw [List.getElem?_map] at h
  cases z : ρ[i]? with
  | none => rw [z] at h; cases h
  | some s =>
    rw [z] at h
    cases s with
    | sh d' =>
      have : d' = d := by simpa [Slot.full] using h
      subst this
      obtain ⟨v, h1, h2⟩ := r.sh i _ z
      exact ⟨v, h1, h2.m r.fh⟩
    | no => simp [Slot.full] at h
    | ow o =>
      have : o.d = d := by simpa [Slot.full] using h
      subst this
      obtain ⟨a, h, h1, h2, h3, h4, h5⟩ := r.ow i _ z
      exact ⟨_, h1, h5.at_ r.fh h2⟩⟩
/-- both heaps have grown -/
theorem RS.grow (r : RS K F0 H0 F H σ ρ) (g : Gr F H F1 H1) : RS K F0 H0 F1 H1 σ ρ where
  gr := r.gr.trans g
  len := r.len
  sh := fun i d h => by
    obtain ⟨v, h1, h2⟩ := r.sh i d h
    exact ⟨v, h1, h2.m g.ff⟩
  ow := fun i o h => by
    obtain ⟨a, h, h1, h2, h3, h4, h5⟩ := r.ow i o h
    exact ⟨a, h, h1, g.hh _ _ h2, (g.fr _ _ h2).trans h3, h4, h5.m g.ff⟩
  dj := r.dj
/-- the whole heap as the foot: the foot itself stays -/
theorem Gr.back {F' : Hp} (e : Ex F H) (g : Gr H H F' H1) : Gr F H F H1 := ⟨e, .refl _, g.hh, e.trans g.hh, fun _ _ _ => rfl⟩
theorem set_get {α : Type} {l : List α} {i j : Nat} {x y : α} (h : (l.set i x)[j]? = some y) : (i = j ∧ x = y ∧ i < l.length) ∨ (i ≠ j ∧ l[j]? = some y) := by
  by_cases e : i = j
  · subst e
    have hl : i < l.length := by
      have z := (List.getElem?_eq_some_iff.mp h).1
      simpa using z
    rw [List.getElem?_set_self hl] at h
    exact .inl ⟨rfl, Option.some.inj h, hl⟩
  · rw [List.getElem?_set_ne e] at h
    exact .inr ⟨e, h⟩
theorem RS.setSh {i : Nat} {d : D} {v : V} (r : RS K F0 H0 F H σ ρ) (h : Rep K F d v) : RS K F0 H0 F H (σ.set i (some v)) (ρ.set i (.sh d)) where
  gr := r.gr
  len := by simp [r.len]
  sh := fun j e q => by
    rcases set_get q with ⟨rfl, z, hl⟩ | ⟨hj, q⟩
    · cases z
      exact ⟨v, List.getElem?_set_self (by rw [← r.len]; exact hl), h⟩
    · rw [List.getElem?_set_ne hj]
      exact r.sh j e q
  ow := fun j e q => by
    rcases set_get q with ⟨rfl, z, hl⟩ | ⟨hj, q⟩
    · cases z
    · rw [List.getElem?_set_ne hj]
      exact r.ow j e q
  dj := fun j k o o' a q1 q2 s1 s2 => by
    rcases set_get q1 with ⟨rfl, z, hl⟩ | ⟨hj, q1⟩
    · cases z
    rcases set_get q2 with ⟨rfl, z, hl⟩ | ⟨hk, q2⟩
    · cases z
    rw [List.getElem?_set_ne hj] at s1
    rw [List.getElem?_set_ne hk] at s2
    exact r.dj j k o o' a q1 q2 s1 s2
theorem RS.setOw {i : Nat} {o : O} {p : Addr} {h : HO} (r : RS K F0 H0 F H σ ρ) (g : Gr F H F1 H1) (n : H p = none) (n1 : F1 p = none) (h1 : H1 p = some h) (ro : RepO K F1 o h) : RS K F0 H0 F1 H1 (σ.set i (some (.ref p))) (ρ.set i (.ow o)) := by
  have r1 := r.grow g
  have ne : ∀ (j : Nat) (o' : O), ρ[j]? = some (.ow o') → σ[j]? ≠ some (some (.ref p)) := fun j o' q z => by
    obtain ⟨a, h', h2, h3, _⟩ := r.ow j o' q
    rw [h2] at z
    cases z
    rw [n] at h3
    cases h3
  refine ⟨r1.gr, by simp [r.len], fun j e q => ?_, fun j e q => ?_, fun j k o1 o2 a q1 q2 s1 s2 => ?_⟩
  · rcases set_get q with ⟨rfl, z, hl⟩ | ⟨hj, q⟩
    · cases z
    · rw [List.getElem?_set_ne hj]
      exact r1.sh j e q
  · rcases set_get q with ⟨rfl, z, hl⟩ | ⟨hj, q⟩
    · cases z
      exact ⟨p, h, List.getElem?_set_self (by rw [← r.len]; exact hl), h1, n1, r.gr.hh.free n, ro⟩
    · rw [List.getElem?_set_ne hj]
      exact r1.ow j e q
  · rcases set_get q1 with ⟨rfl, z, hl⟩ | ⟨hj, q1⟩
    · rcases set_get q2 with ⟨rfl, z2, hl2⟩ | ⟨hk, q2⟩
      · rfl
      · rw [List.getElem?_set_self (by rw [← r.len]; exact hl)] at s1
        cases s1
        rw [List.getElem?_set_ne hk] at s2
        exact absurd s2 (ne k o2 q2)
    · rcases set_get q2 with ⟨rfl, z2, hl2⟩ | ⟨hk, q2⟩
      · rw [List.getElem?_set_self (by rw [← r.len]; exact hl2)] at s2
        cases s2
        rw [List.getElem?_set_ne hj] at s1
        exact absurd s1 (ne j o1 q1)
      · rw [List.getElem?_set_ne hj] at s1
        rw [List.getElem?_set_ne hk] at s2
        exact r.dj j k o1 o2 a q1 q2 s1 s2
/-- the owned object is written -/
theorem RS.write {i : Nat} {o o' : O} {a : Addr} {h' : HO} (r : RS K F0 H0 F H σ ρ) (hi : ρ[i]? = some (.ow o)) (hs : σ[i]? = some (some (.ref a))) (ro : RepO K F o' h') : RS K F0 H0 F (upd H a h') σ (ρ.set i (.ow o')) := by
  obtain ⟨a', h, z1, ha, fa, ha0, _⟩ := r.ow i o hi
  rw [hs] at z1
  cases z1
  have hne : ∀ (j : Nat) (o' : O) (b : Addr), i ≠ j → ρ[j]? = some (.ow o') → σ[j]? = some (some (.ref b)) → b ≠ a := fun j o' b hj q s z => by
    subst z
    exact hj (r.dj i j o o' b hi q hs s)
  refine ⟨⟨r.gr.f0, r.gr.ff, fun b u q => ?_, fun b u q => ?_, r.gr.fr⟩, by simp [r.len], fun j e q => ?_, fun j e q => ?_, fun j k o1 o2 b q1 q2 s1 s2 => ?_⟩
  · rw [upd_ne (ne_of_none q ha0)]
    exact r.gr.hh b u q
  · rw [upd_ne (ne_of_none q fa)]
    exact r.fh b u q
  · rcases set_get q with ⟨rfl, z, hl⟩ | ⟨hj, q⟩
    · cases z
    · exact r.sh j e q
  · rcases set_get q with ⟨rfl, z, hl⟩ | ⟨hj, q⟩
    · cases z
      exact ⟨a, h', hs, upd_same, fa, ha0, ro⟩
    · obtain ⟨b, u, s1, s2, s3, s4, s5⟩ := r.ow j e q
      exact ⟨b, u, s1, by rw [upd_ne (hne j e b hj q s1)]; exact s2, s3, s4, s5⟩
  · have z1 : ∃ o1, ρ[j]? = some (.ow o1) := by
      rcases set_get q1 with ⟨rfl, z, hl⟩ | ⟨hj, q⟩
      · exact ⟨o, hi⟩
      · exact ⟨o1, q⟩
    have z2 : ∃ o1, ρ[k]? = some (.ow o1) := by
      rcases set_get q2 with ⟨rfl, z, hl⟩ | ⟨hj, q⟩
      · exact ⟨o, hi⟩
      · exact ⟨o2, q⟩
    obtain ⟨o3, q3⟩ := z1
    obtain ⟨o4, q4⟩ := z2
    exact r.dj j k o3 o4 b q3 q4 s1 s2
/-- an owned object is given away: it may be told from now on, no longer written -/
def frz (i : Nat) (ρ : SEnv) : SEnv := match ρ[i]? with
  | some (.ow o) => ρ.set i (.sh o.d)
  | _ => ρ
theorem RS.frz {i : Nat} (r : RS K F0 H0 F H σ ρ) : ∃ F', Ex F F' ∧ RS K F0 H0 F' H σ (frz i ρ) := by
  unfold Mi.frz
  split
  · rename_i o hi
    obtain ⟨a, h, hs, ha, fa, ha0, ro⟩ := r.ow i o hi
    have g : Gr F0 H0 (upd F a h) H := r.gr.take ha0 fa ha
    refine ⟨upd F a h, .new fa, g, by simp [r.len], fun j e q => ?_, fun j e q => ?_, fun j k o1 o2 b q1 q2 s1 s2 => ?_⟩
    · rcases set_get q with ⟨rfl, z, hl⟩ | ⟨hj, q⟩
      · cases z
        exact ⟨_, hs, ro.rep fa⟩
      · obtain ⟨v, h1, h2⟩ := r.sh j e q
        exact ⟨v, h1, h2.m (.new fa)⟩
    · rcases set_get q with ⟨rfl, z, hl⟩ | ⟨hj, q⟩
      · cases z
      · obtain ⟨b, u, s1, s2, s3, s4, s5⟩ := r.ow j e q
        have hb : b ≠ a := fun z => by
          subst z
          exact hj (r.dj i j o e b hi q hs s1)
        exact ⟨b, u, s1, s2, by rw [upd_ne hb]; exact s3, s4, s5.m (.new fa)⟩
    · rcases set_get q1 with ⟨rfl, z, hl⟩ | ⟨hj, q1⟩
      · cases z
      rcases set_get q2 with ⟨rfl, z, hl⟩ | ⟨hk, q2⟩
      · cases z
      exact r.dj j k o1 o2 b q1 q2 s1 s2
  · exact ⟨F, .refl _, r⟩
def putR (ρ : SEnv) (ws : List (Nat × D)) : SEnv := ws.foldl (fun ρ p => ρ.set p.1 (.sh p.2)) ρ
theorem RS.put : ∀ {ws : List (Nat × D)} {us : List (Nat × V)} {σ : L2.St} {ρ : SEnv}, RS K F0 H0 F H σ ρ → RepW K F ws us → RS K F0 H0 F H (putS σ us) (putR ρ ws)
  | [], _, _, _, r, h => by
    have h : _ = [] := h
    rw [h]
    exact r
  | (k, d) :: ws, _, _, _, r, h => by
    obtain ⟨v, q, rfl, h1, h2⟩ := h
    exact (r.setSh h1).put h2
end
/-! the statements -/
def sNext : FS := fun ρ => some (.nx ρ)
def sSeq (g h : FS) : FS := fun ρ => (g ρ).bind fun o => match o with
  | .nx ρ' => h ρ'
  | o => some o
def sAsg (i : Nat) (f : FE) : FS := fun ρ => (f (hid ρ)).bind fun d => some (.nx (ρ.set i (.sh d)))
def sAsgF (i : Nat) (f : FE) : FS := fun ρ => (f (full ρ)).bind fun d => d.flat?.bind fun _ => some (.nx (ρ.set i (.sh d)))
def sAsgN (i : Nat) (f : E → Option O) : FS := fun ρ => (f (hid ρ)).bind fun o => some (.nx (ρ.set i (.ow o)))
def sAsgT (tg : FG) (f : FE) : FS := fun ρ => (f (hid ρ)).bind fun d => (tg d).bind fun ws => some (.nx (putR ρ ws))
def sPar (i j : Nat) (fa : E → Option (List D)) : FS := fun ρ => (fa (hid ρ)).bind fun ds => match ds with
  | [a, b] => some (.nx ((ρ.set i (.sh a)).set j (.sh b)))
  | _ => none
def sRet (f : FE) : FS := fun ρ => (f (hid ρ)).bind fun d => some (.rt d)
def sRetN : FS := fun _ => some (.rt .non)
def sIf (c : E → Option Bool) (g h : FS) : FS := fun ρ => (c (full ρ)).bind fun b => if b then g ρ else h ρ
def sApp (i : Nat) (f : FE) : FS := fun ρ => (f (hid ρ)).bind fun d => match ρ[i]? with
  | some (.ow (.l xs)) => if xs.length < 100000 then some (.nx (ρ.set i (.ow (.l (xs ++ [d]))))) else none
  | _ => none
def sPut (i : Nat) (fk fv : FE) : FS := fun ρ => (fv (hid ρ)).bind fun v => (fk (hid ρ)).bind fun k => match ρ[i]? with
  | some (.ow (.k kvs)) => k.key?.bind fun k => if kvs.length < 100000 then some (.nx (ρ.set i (.ow (.k (putD kvs k v))))) else none
  | some (.ow (.t kvs)) => k.keyT?.bind fun k => if kvs.length < 100000 then some (.nx (ρ.set i (.ow (.t (putD kvs k v))))) else none
  | _ => none
def sBrk : FS := fun ρ => some (.bk ρ)
def sCont : FS := fun ρ => some (.ct ρ)
def sFrz (i : Nat) (g : FS) : FS := fun ρ => g (frz i ρ)
def sDrop (f : FE) : FS := fun ρ => (f (hid ρ)).bind fun _ => some (.nx ρ)
/-- the turns of a for -/
def forF (tg : FG) (body : FS) : List D → SEnv → Option Out
  | [], ρ => some (.nx ρ)
  | d :: ds, ρ => (tg d).bind fun ws => (body (putR ρ ws)).bind fun o => match o with
    | .nx ρ' => forF tg body ds ρ'
    | .ct ρ' => forF tg body ds ρ'
    | .bk ρ' => some (.nx ρ')
    | o => some o
def sFor (fi : E → Option (List D)) (tg : FG) (body : FS) : FS := fun ρ => (fi (hid ρ)).bind fun ds => forF tg body ds ρ
section
variable {K : PySem.W.Frag} {mg : Str → Option Value} {X : XK} {t u : TS} {g h : FS} {te tk tv : TE} {f fk fv : FE} {i j : Nat}
theorem ss_next : SemS K mg X tNext sNext := fun F0 H0 F H σ ρ r o ho Dn q => by
  cases ho
  exact q F H σ r (.refl _)
theorem ss_seq (h1 : SemS K mg X t g) (h2 : SemS K mg X u h) : SemS K mg X (tSeq t u) (sSeq g h) := fun F0 H0 F H σ ρ r o ho Dn q => by
  obtain ⟨o1, e1, e2⟩ := Option.bind_eq_some_iff.mp ho
  refine h1 F0 H0 F H σ ρ r o1 e1 _ ?_
  cases o1 with
  | nx ρ' =>
    refine fun F' H' σ' r' ef => h2 F0 H0 F' H' σ' ρ' r' o e2 Dn ?_
    cases o with
    | nx ρ2 => exact fun F2 H2 σ2 r2 ef2 => q F2 H2 σ2 r2 (ef.trans ef2)
    | bk ρ2 => exact fun F2 H2 σ2 r2 ef2 => q F2 H2 σ2 r2 (ef.trans ef2)
    | ct ρ2 => exact fun F2 H2 σ2 r2 ef2 => q F2 H2 σ2 r2 (ef.trans ef2)
    | rt d => exact q
    | ex x => exact q
  | bk ρ' => cases e2; exact q
  | ct ρ' => cases e2; exact q
  | rt d => cases e2; exact q
  | ex x => cases e2; exact q
theorem ss_asg (h : SemE K te f) : SemS K mg X (tAsg te (gName i)) (sAsg i f) := fun F0 H0 F H σ ρ r o ho Dn q => by
  obtain ⟨d, e1, e2⟩ := Option.bind_eq_some_iff.mp ho
  cases e2
  exact h F H σ _ r.fh r.hid d e1 _ fun v F1 H1 g1 r1 => q F1 H1 _ ((r.grow g1).setSh r1) g1.ff
theorem ss_asgF (h : SemE K te f) : SemS K mg X (tAsg te (gName i)) (sAsgF i f) := fun F0 H0 F H σ ρ r o ho Dn q => by
  obtain ⟨d, e1, e2⟩ := Option.bind_eq_some_iff.mp ho
  obtain ⟨x, e3, e4⟩ := Option.bind_eq_some_iff.mp e2
  cases e4
  refine h H H σ _ (.refl H) r.full d e1 _ fun v F1 H1 g1 r1 => ?_
  have r2 : Rep K F d v := by
    cases d <;> simp only [D.flat?, reduceCtorEq] at e3
    · exact rep_non.mpr (rep_non.mp r1)
    · exact rep_bl.mpr (rep_bl.mp r1)
    · exact rep_int.mpr (rep_int.mp r1)
    · exact rep_str.mpr (rep_str.mp r1)
  exact q F H1 _ ((r.grow (g1.back r.fh)).setSh r2) (.refl _)
theorem ss_asgN {f : E → Option O} (h : SemN K te f) : SemS K mg X (tAsg te (gName i)) (sAsgN i f) := fun F0 H0 F H σ ρ r o ho Dn q => by
  obtain ⟨d, e1, e2⟩ := Option.bind_eq_some_iff.mp ho
  cases e2
  exact h F H σ _ r.fh r.hid d e1 _ fun p hp F1 H1 g1 n n1 h1 ro => q F1 H1 _ (r.setOw g1 n n1 h1 ro) g1.ff
theorem ss_asgT {tt : TG} {tg : FG} (h : SemE K te f) (hg : SemG K tt tg) : SemS K mg X (tAsg te tt) (sAsgT tg f) := fun F0 H0 F H σ ρ r o ho Dn q => by
  obtain ⟨d, e1, e2⟩ := Option.bind_eq_some_iff.mp ho
  obtain ⟨ws, e3, e4⟩ := Option.bind_eq_some_iff.mp e2
  cases e4
  refine h F H σ _ r.fh r.hid d e1 _ fun v F1 H1 g1 r1 => ?_
  exact hg F1 H1 σ d v ws g1.fh r1 e3 _ fun us ru => q F1 H1 _ ((r.grow g1).put ru) g1.ff
theorem ss_par {ta : TA} {fa : E → Option (List D)} (h : SemA K ta fa) : SemS K mg X (tPar i j ta) (sPar i j fa) := fun F0 H0 F H σ ρ r o ho Dn q => by
  obtain ⟨ds, e1, e2⟩ := Option.bind_eq_some_iff.mp ho
  refine h F H σ _ r.fh r.hid ds e1 _ fun vs F1 H1 g1 r1 => ?_
  split at e2
  · cases e2
    obtain ⟨v, w, rfl, a, b⟩ := two_of r1
    exact ⟨v, w, rfl, q F1 H1 _ (((r.grow g1).setSh a).setSh b) g1.ff⟩
  · cases e2
theorem ss_ret (h : SemE K te f) : SemS K mg X (tRet te) (sRet f) := fun F0 H0 F H σ ρ r o ho Dn q => by
  obtain ⟨d, e1, e2⟩ := Option.bind_eq_some_iff.mp ho
  cases e2
  exact h F H σ _ r.fh r.hid d e1 _ fun v F1 H1 g1 r1 => q F1 H1 v (r.gr.trans g1) r1
theorem ss_retN : SemS K mg X tRetN sRetN := fun F0 H0 F H σ ρ r o ho Dn q => by
  cases ho
  exact q F H _ r.gr (rep_non.mpr rfl)
theorem ss_if {c : TT} {fc : E → Option Bool} (hc : SemT K c fc) (h1 : SemS K mg X t g) (h2 : SemS K mg X u h) : SemS K mg X (tIfS c t u) (sIf fc g h) := fun F0 H0 F H σ ρ r o ho Dn q => by
  obtain ⟨b, e1, e2⟩ := Option.bind_eq_some_iff.mp ho
  refine hc H H σ _ (.refl H) r.full b e1 _ fun F1 H1 g1 => ?_
  have r1 := r.grow (g1.back r.fh)
  cases b with
  | true => exact h1 F0 H0 F H1 σ ρ r1 o e2 Dn q
  | false => exact h2 F0 H0 F H1 σ ρ r1 o e2 Dn q
theorem ss_app (h : SemE K te f) : SemS K mg X (tDrop (tBM K "list" rAppend (tVar i) (tCons te tNil))) (sApp i f) := fun F0 H0 F H σ ρ r o ho Dn q => by
  obtain ⟨d, e1, e2⟩ := Option.bind_eq_some_iff.mp ho
  split at e2
  · rename_i xs hi
    split at e2
    · rename_i hl
      cases e2
      obtain ⟨a, hh, hs, ha, fa, ha0, ro⟩ := r.ow i _ hi
      obtain ⟨vs, rfl, rv⟩ := ro
      refine ⟨.ref a, hs, .inl ⟨rfl, vs, .of ha⟩, ?_⟩
      refine h F H σ _ r.fh r.hid d e1 _ fun v F1 H1 g1 r1 => ?_
      refine ⟨a, vs, v, rfl, rfl, g1.hh _ _ ha, by rw [← rv.len]; exact sz_lt hl, ?_⟩
      exact q F1 _ _ ((r.grow g1).write hi hs ⟨_, rfl, (rv.m g1.ff).append (.one r1)⟩) g1.ff
    · cases e2
  · cases e2
theorem ss_put (hv : SemE K tv fv) (hk : SemE K tk fk) : SemS K mg X (sDPut (tVar i) tk tv) (sPut i fk fv) := fun F0 H0 F H σ ρ r o ho Dn q => by
  obtain ⟨dv, e1, ho⟩ := Option.bind_eq_some_iff.mp ho
  obtain ⟨dk, e2, ho⟩ := Option.bind_eq_some_iff.mp ho
  refine hv F H σ _ r.fh r.hid dv e1 _ fun v F1 H1 g1 r1 => ?_
  have rs1 := r.grow g1
  split at ho
  · rename_i kvs hi
    obtain ⟨k, e3, ho⟩ := Option.bind_eq_some_iff.mp ho
    split at ho
    · rename_i hl
      cases ho
      obtain ⟨a, hh, hs, ha, fa, ha0, ro⟩ := rs1.ow i _ hi
      obtain ⟨vs, rfl, rv⟩ := ro
      refine ⟨.ref a, hs, ?_⟩
      refine hk F1 H1 σ _ rs1.fh rs1.hid dk e2 _ fun y F2 H2 g2 r2 => ?_
      rw [rep_key r2 e3]
      refine ⟨a, _, rfl, .k (g2.hh _ _ ha) (by rw [← rv.len]; exact sz_lt hl), ?_⟩
      exact q F2 _ _ ((rs1.grow g2).write hi hs ⟨_, rfl, (RepK.mono g2.ff _ _ rv).put (r1.m g2.ff)⟩) (g1.ff.trans g2.ff)
    · cases ho
  · rename_i kvs hi
    obtain ⟨k, e3, ho⟩ := Option.bind_eq_some_iff.mp ho
    split at ho
    · rename_i hl
      cases ho
      obtain ⟨a, hh, hs, ha, fa, ha0, ro⟩ := rs1.ow i _ hi
      obtain ⟨vs, rfl, rv⟩ := ro
      refine ⟨.ref a, hs, ?_⟩
      refine hk F1 H1 σ _ rs1.fh rs1.hid dk e2 _ fun y F2 H2 g2 r2 => ?_
      cases dk <;> simp only [D.keyT?, reduceCtorEq] at e3
      obtain ⟨b, us, rfl, h4, h5⟩ := rep_tup.mp r2
      rw [reps_keys h5 e3] at h4
      refine ⟨a, _, rfl, .t (g2.hh _ _ ha) (g2.fh _ _ h4) (by rw [← rv.len]; exact sz_lt hl), ?_⟩
      exact q F2 _ _ ((rs1.grow g2).write hi hs ⟨_, rfl, (RepT.mono g2.ff _ _ rv).put (r1.m g2.ff)⟩) (g1.ff.trans g2.ff)
    · cases ho
  · cases ho
theorem ss_brk : SemS K mg X tBreak sBrk := fun F0 H0 F H σ ρ r o ho Dn q => by
  cases ho
  exact q F H σ r (.refl _)
theorem ss_cont : SemS K mg X tCont sCont := fun F0 H0 F H σ ρ r o ho Dn q => by
  cases ho
  exact q F H σ r (.refl _)
theorem ss_frz (h1 : SemS K mg X t g) : SemS K mg X t (sFrz i g) := fun F0 H0 F H σ ρ r o ho Dn q => by
  obtain ⟨F', ef, r'⟩ := r.frz (i := i)
  refine h1 F0 H0 F' H σ _ r' o ho Dn ?_
  cases o with
  | nx ρ2 => exact fun F2 H2 σ2 r2 ef2 => q F2 H2 σ2 r2 (ef.trans ef2)
  | bk ρ2 => exact fun F2 H2 σ2 r2 ef2 => q F2 H2 σ2 r2 (ef.trans ef2)
  | ct ρ2 => exact fun F2 H2 σ2 r2 ef2 => q F2 H2 σ2 r2 (ef.trans ef2)
  | rt d => exact q
  | ex x => exact q
theorem ss_drop (h : SemE K te f) : SemS K mg X (tDrop te) (sDrop f) := fun F0 H0 F H σ ρ r o ho Dn q => by
  obtain ⟨d, e1, e2⟩ := Option.bind_eq_some_iff.mp ho
  cases e2
  exact h F H σ _ r.fh r.hid d e1 _ fun v F1 H1 g1 r1 => q F1 H1 _ (r.grow g1) g1.ff
theorem ss_for {wi : TI} {tt : TG} {fi : E → Option (List D)} {tg : FG} (hi : SemI K wi fi) (hg : SemG K tt tg) (hb : SemS K mg X t g) : SemS K mg X (tFor wi tt t) (sFor fi tg g) := fun F0 H0 F H σ ρ r o ho Dn q => by
  obtain ⟨ds, e1, e2⟩ := Option.bind_eq_some_iff.mp ho
  refine hi F H σ _ r.fh r.hid ds e1 _ fun J F1 H1 g1 wk => ?_
  have ef1 := g1.ff
  refine ⟨fun i m σ' H' => m = ds.length - i ∧ i ≤ ds.length ∧ ∃ F' ρ', Ex F1 F' ∧ RS K F0 H0 F' H' σ' ρ' ∧ forF tg g (ds.drop i) ρ' = some o, ⟨ds.length, by simp, Nat.zero_le _, F1, ρ, .refl _, r.grow g1, by simpa using e2⟩, ?_⟩
  rintro i m σ' H' ⟨rfl, hi', F', ρ', ef, r', hr⟩
  by_cases hlt : i < ds.length
  · refine .inr ⟨wk.go i F' H' ef r'.fh hlt, fun σ2 H2 => ∃ F2 ρ2, Ex F1 F2 ∧ RS K F0 H0 F2 H2 σ2 ρ2 ∧ forF tg g (ds.drop (i + 1)) ρ2 = some o, fun σ2 H2 hN => ⟨ds.length - (i + 1), by omega, rfl, by omega, hN⟩, fun x H2 hy => ?_⟩
    have hdi : ds[i]? = some ds[i] := List.getElem?_eq_getElem hlt
    obtain ⟨F2, g2, r2⟩ := wk.yld i F' H' x H2 ds[i] ef r'.fh hdi hy
    rw [List.drop_eq_getElem_cons hlt] at hr
    obtain ⟨ws, h1, hr⟩ := Option.bind_eq_some_iff.mp hr
    obtain ⟨o1, h2, hr⟩ := Option.bind_eq_some_iff.mp hr
    have rs2 := r'.grow g2
    refine hg F2 H2 _ ds[i] x ws g2.fh r2 h1 _ fun us ru => ?_
    refine hb F0 H0 F2 H2 _ _ (rs2.put ru) o1 h2 _ ?_
    have e12 := ef.trans g2.ff
    cases o1 with
    | nx ρ2 => exact fun F3 H3 σ3 r3 e3 => ⟨F3, ρ2, e12.trans e3, r3, hr⟩
    | ct ρ2 => exact fun F3 H3 σ3 r3 e3 => ⟨F3, ρ2, e12.trans e3, r3, hr⟩
    | bk ρ2 =>
      cases hr
      exact fun F3 H3 σ3 r3 e3 => q F3 H3 σ3 r3 (ef1.trans (e12.trans e3))
    | rt d =>
      cases hr
      exact q
    | ex x =>
      cases hr
      exact q
  · have ei : i = ds.length := by omega
    subst ei
    rw [List.drop_length] at hr
    cases hr
    exact .inl ⟨wk.stop F' H' ef r'.fh, q F' H' σ' r' (ef1.trans ef)⟩
end
end Mi

/-! Mi8: the rules: syntax and data together; defs. -/
namespace Mi
open PySem PySem.Spec PyProof.Rows L2
/-! slices -/
def cutD (xs : List D) (lo hi : Option Int) : List D := (xs.drop (HT.sIx xs.length 0 lo)).take (HT.sIx xs.length xs.length hi - HT.sIx xs.length 0 lo)
theorem Reps.cut {K : PySem.W.Frag} {H : Hp} {ds : List D} {vs : List V} (r : Reps K H ds vs) (lo hi : Option Int) : Reps K H (cutD ds lo hi) (cutV vs lo hi) := by
  unfold cutD cutV
  rw [r.len]
  exact (r.drop _).take _
def rSl (K : PySem.W.Frag) : V → Option Int → Option Int → Hp → VK → Prop := fun x lo hi H Q => rSlA K x lo hi H Q ∨ rSlL K x lo hi H Q
theorem sl_A {X : Cx} : SlR X (rSl X.K) := SlR.or sl_tupA sl_list
def dSl (d : D) (lo hi : Option Int) : Option D := match d with
  | .tup xs => some (.tup (cutD xs lo hi))
  | .lst xs => some (.lst (cutD xs lo hi))
  | _ => none
theorem cut_all {xs : List D} {lo hi : Option Int} (h : HT.sIx xs.length 0 lo = 0 ∧ HT.sIx xs.length xs.length hi = xs.length) : cutD xs lo hi = xs := by
  unfold cutD
  rw [h.1, h.2]
  simp
def eSl (fe : FE) (fl fh : E → Option (Option Int)) : FE := fun ρ => (fe ρ).bind fun d => (fl ρ).bind fun lo => (fh ρ).bind fun hi => dSl d lo hi
def fNoP : E → Option (Option Int) := fun _ => some none
def fPart (fe : FE) : E → Option (Option Int) := fun ρ => (fe ρ).bind fun d => d.i?.map some
section
variable {K : PySem.W.Frag}
theorem sem_noP : SemO K tNoPart fNoP := fun F H σ ρ e r d h Q q => by
  cases h
  exact q F H (.refl e)
theorem sem_part {te : TE} {fe : FE} (h : SemE K te fe) : SemO K (tPart te) (fPart fe) := fun F H σ ρ e r d hd Q q => by
  obtain ⟨x, h1, h2⟩ := Option.bind_eq_some_iff.mp hd
  obtain ⟨i, h3, rfl⟩ := Option.map_eq_some_iff.mp h2
  exact h F H σ ρ e r x h1 _ fun v F1 H1 g1 r1 => ⟨i, rep_i r1 h3, q F1 H1 g1⟩
theorem sem_sl {te : TE} {fe : FE} {tl th : TO} {fl fh : E → Option (Option Int)} (h : SemE K te fe) (hl : SemO K tl fl) (hh : SemO K th fh) : SemE K (tSl (rSl K) te tl th) (eSl fe fl fh) := fun F H σ ρ e r d hd Q q => by
  obtain ⟨x, h1, hd⟩ := Option.bind_eq_some_iff.mp hd
  obtain ⟨lo, h2, hd⟩ := Option.bind_eq_some_iff.mp hd
  obtain ⟨hi, h3, hd⟩ := Option.bind_eq_some_iff.mp hd
  refine h F H σ ρ e r x h1 _ fun v F1 H1 g1 r1 => ?_
  refine hl F1 H1 σ ρ g1.fh (r.m g1.ff) lo h2 _ fun F2 H2 g2 => ?_
  refine hh F2 H2 σ ρ g2.fh (r.m (g1.trans g2).ff) hi h3 _ fun F3 H3 g3 => ?_
  have g := (g1.trans g2).trans g3
  have r3 := r1.m (g2.trans g3).ff
  unfold dSl at hd
  split at hd
  · cases hd
    obtain ⟨a, vs, rfl, ha, rv⟩ := rep_tup.mp r3
    refine .inl ⟨a, vs, rfl, .of (g3.fh _ _ ha), fun z => ?_, fun _ p hp => ?_⟩
    · rw [← rv.len] at z
      rw [cut_all z] at q
      exact q _ F3 H3 g r3
    · exact q _ _ _ (g.trans (.new g3.fh hp)) (rep_tup.mpr ⟨p, _, rfl, upd_same, (rv.cut lo hi).m (.new (g3.fh.free hp))⟩)
  · cases hd
    obtain ⟨a, vs, rfl, ha, rv⟩ := rep_lst.mp r3
    exact .inr ⟨a, vs, rfl, .of (g3.fh _ _ ha), fun p hp => q _ _ _ (g.trans (.new g3.fh hp)) (rep_lst.mpr ⟨p, _, rfl, upd_same, (rv.cut lo hi).m (.new (g3.fh.free hp))⟩)⟩
  · cases hd
def dRev : D → Option O
  | .lst xs => some (.l xs.reverse)
  | _ => none
def eN1 (g : D → Option O) (fa : FE) : E → Option O := fun ρ => (fa ρ).bind g
theorem sem_rev {te : TE} {fe : FE} (h : SemE K te fe) : SemN K (tRevL K te) (eN1 dRev fe) := fun F H σ ρ e r d hd Q q => by
  obtain ⟨x, h1, h2⟩ := Option.bind_eq_some_iff.mp hd
  refine h F H σ ρ e r x h1 _ fun v F1 H1 g1 r1 => ?_
  unfold dRev at h2
  split at h2
  · cases h2
    obtain ⟨a, vs, rfl, ha, rv⟩ := rep_lst.mp r1
    exact ⟨a, vs, rfl, .of (g1.fh _ _ ha), fun p hp => q _ _ F1 _ (g1.trans (.off g1.fh hp)) (g1.hh.free hp) (g1.fh.free hp) upd_same ⟨_, rfl, rv.reverse⟩⟩
  · cases h2
/-! d.get(k, x) -/
def eGet2 (fd fk fx : FE) : FE := fun ρ => (fd ρ).bind fun d => (fk ρ).bind fun k => (fx ρ).bind fun x => (dGet d k).bind fun o => some (o.getD x)
theorem isD_of {F H : Hp} {d k : D} {x : V} {o : Option D} (e : Ex F H) (r : Rep K F d x) (h : dGet d k = some o) : ∃ a, x = .ref a ∧ IsD H a := by
  unfold dGet at h
  split at h
  · obtain ⟨a, vs, rfl, ha, _⟩ := rep_dK.mp r
    exact ⟨a, rfl, .inl ⟨_, .inl (e _ _ ha)⟩⟩
  · obtain ⟨a, vs, rfl, ha, _⟩ := rep_dT.mp r
    exact ⟨a, rfl, .inr ⟨_, .inl (e _ _ ha)⟩⟩
  · cases h
theorem sem_get2 {td tk tx : TE} {fd fk fx : FE} (hd : SemE K td fd) (hk : SemE K tk fk) (hx : SemE K tx fx) : SemE K (tDGet2 td tk tx) (eGet2 fd fk fx) := fun F H σ ρ e r d hq Q q => by
  obtain ⟨dd, h1, hq⟩ := Option.bind_eq_some_iff.mp hq
  obtain ⟨kk, h2, hq⟩ := Option.bind_eq_some_iff.mp hq
  obtain ⟨xx, h3, hq⟩ := Option.bind_eq_some_iff.mp hq
  obtain ⟨o, h4, hq⟩ := Option.bind_eq_some_iff.mp hq
  cases hq
  refine hd F H σ ρ e r dd h1 _ fun v F1 H1 g1 r1 => ?_
  obtain ⟨a, rfl, ia⟩ := isD_of g1.fh r1 h4
  refine ⟨a, rfl, ia, ?_⟩
  refine hk F1 H1 σ ρ g1.fh (r.m g1.ff) kk h2 _ fun y F2 H2 g2 r2 => ?_
  refine hx F2 H2 σ ρ g2.fh (r.m (g1.trans g2).ff) xx h3 _ fun z F3 H3 g3 r3 => ?_
  obtain ⟨p, w, e1, gd, _, s1, s2⟩ := dGet_ok g3.fh (r1.m (g2.trans g3).ff) (r2.m g3.ff) h4
  cases e1
  refine ⟨w, gd, ?_⟩
  refine q _ F3 H3 ((g1.trans g2).trans g3) ?_
  cases o with
  | none => rw [s2 rfl]; exact r3
  | some d' => obtain ⟨v', rfl, rv⟩ := s1 d' rfl; exact rv
/-! displayed dicts with written texts as keys -/
def pNil : E → Option (List (Key × D)) := fun _ => some []
def pCons (k : Str) (fv : FE) (fr : E → Option (List (Key × D))) : E → Option (List (Key × D)) := fun ρ => (fv ρ).bind fun v => (fr ρ).bind fun r => some ((.inr k, v) :: r)
def mergeD (kvs more : List (Key × D)) : List (Key × D) := more.foldl (fun acc kv => putD acc kv.1 kv.2) kvs
def fDisp (fp : E → Option (List (Key × D))) : E → Option O := fun ρ => (fp ρ).bind fun ps => if ps.length ≤ 15 then some (.k (mergeD [] ps)) else none
def SemP (K : PySem.W.Frag) (trs : List (TE × TE)) (f : E → Option (List (Key × D))) : Prop := ∀ F H σ ρ, Ex F H → RE K F σ ρ → ∀ ds, f ρ = some ds → ∀ Q : List (V × V) → Hp → Prop, (∀ kvs F' H', Gr F H F' H' → RepK K F' ds kvs → Q (kvs.map fun kv => (kV kv.1, kv.2)) H') → tPairs trs σ H Q
theorem sem_pNil : SemP K [] pNil := fun F H σ ρ e r d h Q q => by
  cases h
  exact q [] F H (.refl e) (repK_nil.mpr rfl)
theorem sem_pCons {k : Str} {tv : TE} {fv : FE} {trs : List (TE × TE)} {fr : E → Option (List (Key × D))} (h1 : SemE K tv fv) (h2 : SemP K trs fr) : SemP K ((tC (.str k), tv) :: trs) (pCons k fv fr) := fun F H σ ρ e r d h Q q => by
  obtain ⟨v, e1, h⟩ := Option.bind_eq_some_iff.mp h
  obtain ⟨ds, e2, h⟩ := Option.bind_eq_some_iff.mp h
  cases h
  refine h1 F H σ ρ e r v e1 _ fun y F1 H1 g1 r1 => ?_
  refine h2 F1 H1 σ ρ g1.fh (r.m g1.ff) ds e2 _ fun kvs F2 H2 g2 r2 => ?_
  exact q ((.inr k, y) :: kvs) F2 H2 (g1.trans g2) (repK_cons.mpr ⟨y, kvs, rfl, r1.m g2.ff, r2⟩)
theorem RepK.merge {F : Hp} : ∀ {more : List (Key × D)} {rs : List (Key × V)} {kvs : List (Key × D)} {vs : List (Key × V)}, RepK K F more rs → RepK K F kvs vs → RepK K F (mergeD kvs more) (mergeK vs rs)
  | [], _, _, _, h, q => by
    rw [repK_nil] at h
    subst h
    exact q
  | (k, d) :: ps, _, _, _, h, q => by
    obtain ⟨v, r, rfl, h1, t⟩ := repK_cons.mp h
    exact t.merge (q.put h1)
theorem sem_disp {trs : List (TE × TE)} {fp : E → Option (List (Key × D))} (h : SemP K trs fp) : SemN K (tDisp trs) (fDisp fp) := fun F H σ ρ e r d hd Q q => by
  obtain ⟨ps, h1, h2⟩ := Option.bind_eq_some_iff.mp hd
  split at h2
  · rename_i hl
    cases h2
    intro p hp
    refine h F _ σ ρ (e.trans (.new hp)) r ps h1 _ fun kvs F1 H1 g1 r1 => ?_
    have n1 : F1 p = none := (g1.fr p _ upd_same).trans (e.free hp)
    refine ⟨g1.hh _ _ upd_same, kvs, rfl, by rw [← r1.len]; exact hl, ?_⟩
    refine q p _ F1 _ ⟨e, g1.ff, fun a u qa => ?_, fun a u qa => ?_, fun a o qa => ?_⟩ hp n1 upd_same ⟨_, rfl, r1.merge (repK_nil.mpr rfl)⟩
    · rw [upd_ne (ne_of_none qa hp)]
      exact g1.hh a u (by rw [upd_ne (ne_of_none qa hp)]; exact qa)
    · rw [upd_ne (ne_of_none qa n1)]
      exact g1.fh a u qa
    · exact g1.fr a o (by rw [upd_ne (ne_of_none qa hp)]; exact qa)
  · cases h2
/-! a call of a def -/
def spD (K : PySem.W.Frag) (n : Nat) (m : List D → Option D) : Sp := fun vs H Q _ => ∃ F ds d, Ex F H ∧ Reps K F ds vs ∧ vs.length = n ∧ m ds = some d ∧ ∀ v F' H', Gr F H F' H' → Rep K F' d v → Q v H'
theorem sem_call {n : Nat} {m : List D → Option D} {ta : TA} {fa : E → Option (List D)} (hm : ∀ ds d, m ds = some d → ds.length = n) (h : SemA K ta fa) : SemE K (tCall (spD K n m) [] E0 ta) (eA m fa) := fun F H σ ρ e r d hd Q q => by
  obtain ⟨ds, h1, h2⟩ := Option.bind_eq_some_iff.mp hd
  refine h F H σ ρ e r ds h1 _ fun vs F1 H1 g1 r1 => ?_
  show spD K n m (vs ++ []) H1 Q E0
  rw [List.append_nil]
  exact ⟨F1, ds, d, g1.fh, r1, by rw [← r1.len]; exact hm _ _ h2, h2, fun v F2 H2 g2 r2 => q v F2 H2 (g1.trans g2) r2⟩
end
/-- a def of the top keeps its promise -/
structure Fx (P : Program) (w : World) (K : PySem.W.Frag) (mg : Str → Option Value) (base : Heap) (k : Nat) (x : Str) (n : Nat) (m : List D → Option D) : Prop where
  ok : ∃ f fd ps, FnOk P w K mg base CX0 k f fd ps (spD K n m) ∧ mg x = some (.ref f) ∧ PySem.W.keepIn K (.ref f) = true ∧ Binds K fd ps []
  hm : ∀ ds d, m ds = some d → ds.length = n
/-- the mirror of a def: N slots, n of them parameters -/
def defM (N n : Nat) (g : FS) : List D → Option D := fun ds => if ds.length = n then (g (ds.map Slot.sh ++ List.replicate (N - n) Slot.no)).bind fun o => match o with
  | .rt d => some d
  | .nx _ => some .non
  | _ => none else none
theorem defM_len {N n : Nat} {g : FS} (ds : List D) (d : D) (h : defM N n g ds = some d) : ds.length = n := by
  unfold defM at h
  split at h
  · assumption
  · cases h

structure SE (X : Cx) (e : Expr) (t : TE) (f : FE) : Prop where
  pe : PE X e t
  se : SemE X.K t f
structure SN (X : Cx) (e : Expr) (t : TE) (f : E → Option O) : Prop where
  pe : PE X e t
  se : SemN X.K t f
structure ST (X : Cx) (e : Expr) (t : TT) (f : E → Option Bool) : Prop where
  pe : PT X e t
  se : SemT X.K t f
structure SW (X : Cx) (e : Expr) (t : TT) (f : E → Option Bool) : Prop where
  pe : PW X e t
  se : SemT X.K t f
structure SA (X : Cx) (es : List Expr) (t : TA) (f : E → Option (List D)) : Prop where
  pe : PA X es t
  se : SemA X.K t f
structure SO (X : Cx) (e : Option Expr) (t : TO) (f : E → Option (Option Int)) : Prop where
  pe : PO X e t
  se : SemO X.K t f
structure SI (X : Cx) (tg e : Expr) (t : TI) (f : E → Option (List D)) : Prop where
  pe : PI X tg e t
  se : SemI X.K t f
structure SG (X : Cx) (e : Expr) (t : TG) (f : FG) : Prop where
  pe : PG X e t
  se : SemG X.K t f
structure SGs (X : Cx) (es : List Expr) (t : TGs) (f : List D → Option (List (Nat × D))) : Prop where
  pe : PGs X es t
  se : SemGs X.K t f
/-- tests of a comprehension -/
structure STs (X : Cx) (es : List Expr) (t : TT) (f : E → Option Bool) : Prop where
  pe : PTs X es t
  se : SemT X.K t f
structure SP (X : Cx) (pos : Pos) (ks : List (Option Expr)) (vs : List Expr) (trs : List (TE × TE)) (f : E → Option (List (Key × D))) : Prop where
  pe : PPs X pos ks vs trs
  se : SemP X.K trs f
def SS (X : Cx) (W : XK) (st : Stmt) (g : FS) : Prop := ∃ t, PS X st t ∧ SemS X.K X.mg W t g
def SSs (X : Cx) (W : XK) (st : List Stmt) (g : FS) : Prop := ∃ t, PSs X st t ∧ SemS X.K X.mg W t g
section
variable {X : Cx} {a b c e : Expr} {es : List Expr} {ta tb tc te : TE} {fa fb fc fe : FE} {pos p apos : Pos} {x : Str}
def eO (f : E → Option O) : FE := fun ρ => (f ρ).map O.d
theorem sn_e {f : E → Option O} (h : SN X e te f) : SE X e te (eO f) := ⟨h.pe, h.se.e⟩
theorem se_v (i : Nat) (hN : X.N[i]? = some x := by rfl) (hv : Vis X.env.scope x := by first | exact Or.inl rfl | exact Or.inr (Or.inl rfl) | exact Or.inr (Or.inr rfl)) (hd : (x == ("__debug__" : Str)) = false := by decide)
    (hcd : (x == ("__classdict__" : Str)) = false := by decide) : SE X (.Name x pos) (tVar i) (eVar i) := ⟨pe_var hN hv hd hcd, sem_var⟩
theorem se_int {i : Int} {j : Nat} : SE X (.Constant (.int i) j pos) (tC (.int i)) (eC (.int i)) := ⟨pe_int, sem_c fun _ => rep_int.mpr rfl⟩
theorem se_bl {i : Bool} {j : Nat} : SE X (.Constant (.bool i) j pos) (tC (.bl i)) (eC (.bl i)) := ⟨pe_bl, sem_c fun _ => rep_bl.mpr rfl⟩
theorem se_str {i : Str} {j : Nat} : SE X (.Constant (.str i) j pos) (tC (.str i)) (eC (.str i)) := ⟨pe_str, sem_c fun _ => rep_str.mpr rfl⟩
theorem se_non {j : Nat} : SE X (.Constant .none j pos) (tC .non) (eC .non) := ⟨pe_non, sem_c fun _ => rep_non.mpr rfl⟩
theorem se_glob {v : V} {u : Value} {d : D} (hg : Gl X x) (hm : X.mg x = some u) (r : RelV v u) (h : ∀ F, Rep X.K F d v) (hd : (x == ("__debug__" : Str)) = false := by decide) : SE X (.Name x pos) (tC v) (eC d) := ⟨pe_glob hg hm r hd, sem_c h⟩
theorem se_ty {n : String} (hg : Gl X x) (hm : X.mg x = none) (hv : bootBuiltins x = some (.type n)) (hn : x ≠ "__name__" := by decide) (hd : (x == ("__debug__" : Str)) = false := by decide) : SE X (.Name x pos) (tC (.ty n)) (eC (.ty n)) :=
  ⟨pe_bltn hg hm hv (show RelV (.ty n) (.type n) from rfl) hn hd, sem_c fun _ => rep_ty.mpr rfl⟩
theorem se_bin {op : Operator} {r : R2} {g : D → D → Option D} (ho : OpR X (binaryOp op) r) (L : Lf2 X.K r g) (ha : SE X a ta fa) (hb : SE X b tb fb) : SE X (.BinOp a op b pos) (tOp r ta tb) (e2 g fa fb) := ⟨pe_op ho ha.pe hb.pe, sem_op ha.se hb.se L⟩
theorem sn_bin {op : Operator} {r : R2} {g : D → D → Option O} (ho : OpR X (binaryOp op) r) (L : Lf2N X.K r g) (ha : SE X a ta fa) (hb : SE X b tb fb) : SN X (.BinOp a op b pos) (tOp r ta tb) (eN2 g fa fb) := ⟨pe_op ho ha.pe hb.pe, sem_opN ha.se hb.se L⟩
def dNeg : D → Option D
  | .int i => some (.int (-i))
  | _ => none
theorem lf_neg {K : PySem.W.Frag} : Lf1 K (rU fun i => .int (-i)) dNeg := fun F H a x e ra d hd Q q => by
  unfold dNeg at hd
  split at hd
  · cases hd
    exact ⟨_, rep_int.mp ra, q _ F H (.refl e) (rep_int.mpr rfl)⟩
  · cases hd
theorem se_neg (ha : SE X a ta fa) : SE X (.UnaryOp .USub a pos) (tUn (rU fun i => .int (-i)) ta) (e1 dNeg fa) := ⟨pe_un un_neg ha.pe, sem_un ha.se lf_neg⟩
theorem se_cmp {op : CmpOp} {r : R2} {g : D → D → Option D} (ho : OpR X (compareOp op) r) (L : Lf2 X.K r g) (ha : SE X a ta fa) (hb : SE X b tb fb) (hm : behindInMarks op b = false := by with_unfolding_all rfl) : SE X (.Compare a [op] [b] pos) (tOp r ta tb) (e2 g fa fb) := ⟨pe_cmpR ho ha.pe hb.pe hm, sem_op ha.se hb.se L⟩
theorem st_cmp {op : CmpOp} {r : R2} {g : D → D → Option D} (ho : OpR X (compareOp op) r) (L : Lf2 X.K r g) (ha : SE X a ta fa) (hb : SE X b tb fb) (hm : behindInMarks op b = false := by with_unfolding_all rfl) : ST X (.Compare a [op] [b] pos) (tTest (tOp r ta tb)) (tB (e2 g fa fb)) := ⟨pt_cmpR ho ha.pe hb.pe hm, sem_test (sem_op ha.se hb.se L)⟩
theorem se_chain {op op' : CmpOp} {r r' : R2} {g g' : D → D → Option D} (ho : OpR X (compareOp op) r) (ho' : OpR X (compareOp op') r') (L : Lf2 X.K r g) (L' : Lf2 X.K r' g') (ha : SE X a ta fa) (hb : SE X b tb fb) (hc : SE X c tc fc) (hm : lastMarks [op, op'] [b, c] = false := by with_unfolding_all rfl) :
    SE X (.Compare a [op, op'] [b, c] pos) (tChain r r' ta tb tc) (fChain g g' fa fb fc) := ⟨pe_chain ho ho' ha.pe hb.pe hc.pe hm, sem_chain ha.se hb.se hc.se L L'⟩
theorem st_chain {op op' : CmpOp} {r r' : R2} {g g' : D → D → Option D} (ho : OpR X (compareOp op) r) (ho' : OpR X (compareOp op') r') (L : Lf2 X.K r g) (L' : Lf2 X.K r' g') (ha : SE X a ta fa) (hb : SE X b tb fb) (hc : SE X c tc fc) (hm : lastMarks [op, op'] [b, c] = false := by with_unfolding_all rfl) :
    ST X (.Compare a [op, op'] [b, c] pos) (tTest (tChain r r' ta tb tc)) (tB (fChain g g' fa fb fc)) := ⟨pt_chain ho ho' ha.pe hb.pe hc.pe hm, sem_test (sem_chain ha.se hb.se hc.se L L')⟩
theorem se_and (ha : SE X a ta fa) (hb : SE X (.BoolOp .And (b :: es) pos) tb fb) : SE X (.BoolOp .And (a :: b :: es) pos) (tAndV ta tb) (fAndV fa fb) := ⟨pe_and ha.pe hb.pe, sem_andV ha.se hb.se⟩
theorem se_or (ha : SE X a ta fa) (hb : SE X (.BoolOp .Or (b :: es) pos) tb fb) : SE X (.BoolOp .Or (a :: b :: es) pos) (tOrV ta tb) (fOrV fa fb) := ⟨pe_or ha.pe hb.pe, sem_orV ha.se hb.se⟩
theorem se_one {op : BoolOp} (ha : SE X a ta fa) : SE X (.BoolOp op [a] pos) ta fa := ⟨pe_one ha.pe, ha.se⟩
theorem se_not (ha : SE X a ta fa) : SE X (.UnaryOp .Not a pos) (tNotV ta) (fNotV fa) := ⟨pe_not ha.pe, sem_notV ha.se⟩
theorem st_val (ha : SE X a ta fa) (he : ∀ whole, isTrue a X.env whole = (do let v ← whole; standAt a.pos; holding [v] (truthy v)) := by intro _; rfl) : ST X a (L2.tB ta) (tB fa) := ⟨pt_val ha.pe he, sem_B ha.se⟩
section
variable {t u : TT} {f g : E → Option Bool}
theorem sw_t (h : SW X e t f) : ST X e t f := ⟨h.pe.pt, h.se⟩
theorem sw_and (ha : ST X a t f) (hb : SW X (.BoolOp .And (b :: es) pos) u g) : SW X (.BoolOp .And (a :: b :: es) pos) (tAnd t u) (fAnd f g) := ⟨pw_and ha.pe hb.pe, sem_and ha.se hb.se⟩
theorem sw_or (ha : ST X a t f) (hb : SW X (.BoolOp .Or (b :: es) pos) u g) : SW X (.BoolOp .Or (a :: b :: es) pos) (tOr t u) (fOr f g) := ⟨pw_or ha.pe hb.pe, sem_or ha.se hb.se⟩
theorem sw_and1 (ha : ST X a t f) : SW X (.BoolOp .And [a] pos) t f := ⟨pw_and1 ha.pe, ha.se⟩
theorem sw_or1 (ha : ST X a t f) : SW X (.BoolOp .Or [a] pos) t f := ⟨pw_or1 ha.pe, ha.se⟩
theorem st_not (ha : ST X a t f) : ST X (.UnaryOp .Not a pos) (tNot t) (fNot f) := ⟨pt_not ha.pe, sem_not ha.se⟩
theorem se_ifx (hc : ST X c t f) (ha : SE X a ta fa) (hb : SE X b tb fb) : SE X (.IfExp c a b pos) (tIf t ta tb) (fIf f fa fb) := ⟨pe_ifExp hc.pe ha.pe hb.pe, sem_if hc.se ha.se hb.se⟩
theorem sts_nil : STs X [] tYes fYes := ⟨pts_nil, sem_yes⟩
theorem sts_one (h : ST X c t f) : STs X [c] t f := ⟨pts_one h.pe, h.se⟩
end
theorem sa_nil : SA X [] tNil aNil := ⟨pa_nil, sem_nil⟩
theorem sa_cons {t : TA} {f : E → Option (List D)} (ha : SE X e te fe) (hr : SA X es t f) (hs : starEach (e :: es) X.env = (false, eval e X.env) :: starEach es X.env := by rfl) : SA X (e :: es) (tCons te t) (aCons fe f) := ⟨pa_cons ha.pe hr.pe hs, sem_cons ha.se hr.se⟩
section
variable {t : TA} {f : E → Option (List D)}
theorem se_tup {k : Nat} (h : SA X es t f) : SE X (.Tuple es k pos) (tTup t) (fTup f) := ⟨pe_tup h.pe, sem_tup h.se⟩
theorem sn_lst (h : SA X es t f) : SN X (.List es pos) (tLst t) (fLst f) := ⟨pe_lst h.pe, sem_lst h.se⟩
theorem se_call {k n : Nat} {m : List D → Option D} (F : Fx X.prog X.w X.K X.mg X.base k x n m) (hr : Room k X.A) (hg : Gl X x) (ha : SA X (e :: es) t f) (hdb : (x == ("__debug__" : Str)) = false := by decide) (he : starEach (e :: es) X.env = (false, eval e X.env) :: starEach es X.env := by rfl)
    (hpl : (backTo pos (starEach es X.env)).any (·.1) = false := by rfl) : SE X (.Call (.Name x p) (e :: es) [] pos) (tCall (spD X.K n m) [] E0 t) (eA m f) := by
  obtain ⟨a, fd, ps, h1, h2, h3, h4⟩ := F.ok
  exact ⟨pe_call h1 hr hg h2 h3 h4 .nil pass0 ha.pe hdb he hpl, sem_call F.hm ha.se⟩
theorem se_callB {id : String} {r : List V → Hp → VK → Prop} {g : List D → Option D} (hc : CallR X (.builtin id) r) (L : LfC X.K r g) (hg : Gl X x) (hm : X.mg x = none) (hv : bootBuiltins x = some (.builtin id)) (ha : SA X (e :: es) t f) (hn : x ≠ "__name__" := by decide) (hdb : (x == ("__debug__" : Str)) = false := by decide)
    (he : starEach (e :: es) X.env = (false, eval e X.env) :: starEach es X.env := by rfl) (hpl : (backTo pos (starEach es X.env)).any (·.1) = false := by rfl) : SE X (.Call (.Name x p) (e :: es) [] pos) (tCB r t) (eA g f) := ⟨pe_callB hc hg hm hv ha.pe hn hdb he hpl, sem_callB ha.se L⟩
theorem sn_callB {id : String} {r : List V → Hp → VK → Prop} {g : List D → Option O} (hc : CallR X (.builtin id) r) (L : LfCN X.K r g) (hg : Gl X x) (hm : X.mg x = none) (hv : bootBuiltins x = some (.builtin id)) (ha : SA X (e :: es) t f) (hn : x ≠ "__name__" := by decide) (hdb : (x == ("__debug__" : Str)) = false := by decide)
    (he : starEach (e :: es) X.env = (false, eval e X.env) :: starEach es X.env := by rfl) (hpl : (backTo pos (starEach es X.env)).any (·.1) = false := by rfl) : SN X (.Call (.Name x p) (e :: es) [] pos) (tCB r t) (eNA g f) := ⟨pe_callB hc hg hm hv ha.pe hn hdb he hpl, sem_callBN ha.se L⟩
theorem se_callTy {T : String} {r : List V → Hp → VK → Prop} {g : List D → Option D} (hc : CallR X (.type T) r) (L : LfC X.K r g) (hg : Gl X x) (hm : X.mg x = none) (hv : bootBuiltins x = some (.type T)) (ha : SA X (e :: es) t f) (hn : x ≠ "__name__" := by decide) (hdb : (x == ("__debug__" : Str)) = false := by decide)
    (he : starEach (e :: es) X.env = (false, eval e X.env) :: starEach es X.env := by rfl) (hpl : (backTo pos (starEach es X.env)).any (·.1) = false := by rfl) : SE X (.Call (.Name x p) (e :: es) [] pos) (tCB r t) (eA g f) := ⟨pe_callTy hc hg hm hv ha.pe hn hdb he hpl, sem_callB ha.se L⟩
theorem sn_callTy {T : String} {r : List V → Hp → VK → Prop} {g : List D → Option O} (hc : CallR X (.type T) r) (L : LfCN X.K r g) (hg : Gl X x) (hm : X.mg x = none) (hv : bootBuiltins x = some (.type T)) (ha : SA X (e :: es) t f) (hn : x ≠ "__name__" := by decide) (hdb : (x == ("__debug__" : Str)) = false := by decide)
    (he : starEach (e :: es) X.env = (false, eval e X.env) :: starEach es X.env := by rfl) (hpl : (backTo pos (starEach es X.env)).any (·.1) = false := by rfl) : SN X (.Call (.Name x p) (e :: es) [] pos) (tCB r t) (eNA g f) := ⟨pe_callTy hc hg hm hv ha.pe hn hdb he hpl, sem_callBN ha.se L⟩
end
theorem se_ix (hu : X.A.units + 1 < cLine) (ha : SE X a ta fa) (hb : SE X b tb fb) (hs : PlainIx b := by intro _ _; rfl) : SE X (.Subscript a b pos) (tOp (rIxA X.K) ta tb) (e2 dIx fa fb) := ⟨pe_ix (ix_all hu) ha.pe hb.pe hs, sem_op ha.se hb.se lf_ix⟩
theorem so_n : SO X none tNoPart fNoP := ⟨po_none, sem_noP⟩
theorem so_s (h : SE X e te fe) : SO X (some e) (tPart te) (fPart fe) := ⟨po_some h.pe, sem_part h.se⟩
theorem se_sl {lo hi : Option Expr} {tl th : TO} {fl fh : E → Option (Option Int)} {p2 : Pos} (h : SE X e te fe) (hl : SO X lo tl fl) (hh : SO X hi th fh) : SE X (.Subscript e (.Slice lo hi none p2) pos) (tSl (rSl X.K) te tl th) (eSl fe fl fh) := ⟨pe_slice sl_A h.pe hl.pe hh.pe, sem_sl h.se hl.se hh.se⟩
theorem sn_rev {k : Nat} {p1 p2 p3 : Pos} (h : SE X e te fe) : SN X (.Subscript e (.Slice none none (some (.UnaryOp .USub (.Constant (.int 1) k p1) p2)) p3) pos) (tRevL X.K te) (eN1 dRev fe) := ⟨pe_revL h.pe, sem_rev h.se⟩
theorem se_get2 {cpos : Pos} (hu : X.A.units + 1 < cLine) (ha : SE X a ta fa) (hb : SE X b tb fb) (hc : SE X c tc fc) (m : M2 X a "get" apos b c cpos) : SE X (.Call (.Attribute a "get" apos) [b, c] [] cpos) (tDGet2 ta tb tc) (eGet2 fa fb fc) := ⟨pe_dget2 hu ha.pe hb.pe hc.pe m, sem_get2 ha.se hb.se hc.se⟩
/-! what is walked -/
theorem si_seq {tg : Expr} (h : SE X e te fe) : SI X tg e (iSeq X.K te) (fSeq fe) := ⟨pi_seq h.pe, sem_iSeq h.se⟩
section
variable {t : TA} {f : E → Option (List D)} {tg : Expr}
theorem si_r1 (hg : Gl X "range") (hm : X.mg "range" = none) (h : SA X [a] t f) (hs : starEach [a] X.env = [(false, eval a X.env)] := by rfl) : SI X tg (.Call (.Name "range" p) [a] [] pos) (iRng1 t) (fRng1 f) := ⟨pi_range1 hg hm h.pe hs, sem_iRng1 h.se⟩
theorem si_r2 (hg : Gl X "range") (hm : X.mg "range" = none) (h : SA X [a, b] t f) (hs : starEach [a, b] X.env = [(false, eval a X.env), (false, eval b X.env)] := by rfl) (hs2 : starEach [b] X.env = [(false, eval b X.env)] := by rfl) : SI X tg (.Call (.Name "range" p) [a, b] [] pos) (iRng2 t) (fRng2 f) := ⟨pi_range2 (hs := hs) (hs2 := hs2) hg hm h.pe, sem_iRng2 h.se⟩
theorem si_enum {k : Nat} {tp : Pos} (hg : Gl X "enumerate") (hm : X.mg "enumerate" = none) (h : SA X [a] t f) (hs : starEach [a] X.env = [(false, eval a X.env)] := by rfl) : SI X (.Tuple es k tp) (.Call (.Name "enumerate" p) [a] [] pos) (iEnumA X.K t) (fEnum f) := ⟨pi_enumA hg hm h.pe hs, sem_iEnum h.se⟩
theorem si_zip {k : Nat} {tp : Pos} (hg : Gl X "zip") (hm : X.mg "zip" = none) (h : SA X [a, b] t f) (hs : starEach [a, b] X.env = (false, eval a X.env) :: starEach [b] X.env := by rfl) (hpl : (backTo pos (starEach [b] X.env)).any (·.1) = false := by rfl) : SI X (.Tuple es k tp) (.Call (.Name "zip" p) [a, b] [] pos) (RZ.iZipA X.K t) (fZip f) := ⟨RZ.pi_zipA hg hm h.pe hs hpl, sem_iZip h.se⟩
end
theorem sg_n {i : Nat} (hN : X.N.Nodup) (hi : X.N[i]? = some x) (hx : Loc X.env.scope x) (hf : X.fn x = true ∨ X.env.scope.names.lookup x = some .local := by first | exact .inl rfl | exact .inr rfl | assumption) : SG X (.Name x pos) (gName i) (gN i) := ⟨pg_name hN hi hx hf, sem_gN⟩
theorem sgs_nil : SGs X [] gNil gsN := ⟨pgs_nil, sem_gsN⟩
theorem sgs_cons {t : TG} {u : TGs} {f : FG} {fs : List D → Option (List (Nat × D))} (h1 : SG X e t f) (h2 : SGs X es u fs) (hs : (assignEach (e :: es) X.env).map (·.2) = assign e X.env :: (assignEach es X.env).map (·.2) := by rfl) : SGs X (e :: es) (gCons t u) (gsC f fs) := ⟨pgs_cons h1.pe h2.pe hs, sem_gsC h1.se h2.se⟩
theorem gs_len2 {f g : FG} (xs : List D) (ws : List (Nat × D)) (h : gsC f (gsC g gsN) xs = some ws) : xs.length = 2 := by
  match xs, h with
  | [], h => simp [gsC] at h
  | [a], h => simp [gsC] at h
  | [a, b], _ => rfl
  | a :: b :: c :: r, h => simp [gsC, gsN] at h
theorem gs_len3 {f g k : FG} (xs : List D) (ws : List (Nat × D)) (h : gsC f (gsC g (gsC k gsN)) xs = some ws) : xs.length = 3 := by
  match xs, h with
  | [], h => simp [gsC] at h
  | [a], h => simp [gsC] at h
  | [a, b], h => simp [gsC] at h
  | [a, b, c], _ => rfl
  | a :: b :: c :: d :: r, h => simp [gsC, gsN] at h
theorem sg_t {k n : Nat} {u : TGs} {fs : List D → Option (List (Nat × D))} (hc : X.calm = true) (h : SGs X es u fs) (hl : ∀ xs ws, fs xs = some ws → xs.length = n) (hn : (assignEach es X.env).length = n := by rfl) (hst : (assignEach es X.env).findIdx? (·.1) = none := by rfl) : SG X (.Tuple es k pos) (gTup X.K n u) (gT fs) := ⟨pg_tup hc h.pe hn hst, sem_gT h.se hl⟩
end
end Mi

/-! Mi9: comprehensions, statements, defs: the rules. -/
namespace Mi
open PySem PySem.Spec PyProof.Rows L2
section
variable {X : Cx} {a b c e : Expr} {es : List Expr} {ta tb tc te : TE} {fa fb fc fe : FE} {pos p apos : Pos} {x : Str}
theorem sn_lc {elt tg iter : Expr} {ifs : List Expr} {scope : Scope} {own : List (Str × Nat)} {wi : TI} {g : TG} {tt : TT} {fi : E → Option (List D)} {gf : FG} {fcn : E → Option Bool} (hc : X.calm = true) (hN : X.N.Nodup) (hi : SI X tg iter wi fi) (ok : BlkOk X.N X.env.scope scope own)
    (hg : ∀ (s : Shared) (H : Hp) (C : Addr) (cl : List (Str × Addr)) (fp : List Addr), SG (X.blk s H scope (compEnvC scope cl C X.env) fp) tg g gf) (ht : ∀ (s : Shared) (H : Hp) (C : Addr) (cl : List (Str × Addr)) (fp : List Addr), STs (X.blk s H scope (compEnvC scope cl C X.env) fp) ifs tt fcn)
    (he : ∀ (s : Shared) (H : Hp) (C : Addr) (cl : List (Str × Addr)) (fp : List Addr), SE (X.blk s H scope (compEnvC scope cl C X.env) fp) elt te fe) (hw : ∀ d ws, gf d = some ws → ∀ p ∈ ws.map (·.1), p ∈ own.map (·.2)) (hs : ∀ x, foldedSetIterable iter X.env x = pure x := by intro _; rfl) :
    SN X (.ListComp elt [⟨tg, iter, ifs, 0⟩] scope pos) (tLc wi g tt te (own.map (·.2))) (fLc fi gf fcn fe (own.map (·.2))) :=
  ⟨pe_lc hc hN hi.pe ok (fun s H C cl fp => (hg s H C cl fp).pe) (fun s H C cl fp => (ht s H C cl fp).pe) (fun s H C cl fp => (he s H C cl fp).pe) hs,
    sem_lc hi.se (hg X.s_0 X.H_0 0 [] []).se (ht X.s_0 X.H_0 0 [] []).se (he X.s_0 X.H_0 0 [] []).se hw⟩
theorem sn_lcK {elt tg : Expr} {i : Nat} {scope : Scope} {own : List (Str × Nat)} {g : TG} {gf : FG} (hc : X.calm = true) (hN : X.N.Nodup) (hi : PE X a (tVar i)) (ok : BlkOk X.N X.env.scope scope own)
    (hg : ∀ (s : Shared) (H : Hp) (C : Addr) (cl : List (Str × Addr)) (fp : List Addr), SG (X.blk s H scope (compEnvC scope cl C X.env) fp) tg g gf)
    (he : ∀ (s : Shared) (H : Hp) (C : Addr) (cl : List (Str × Addr)) (fp : List Addr), SE (X.blk s H scope (compEnvC scope cl C X.env) fp) elt te fe) (hw : ∀ d ws, gf d = some ws → ∀ p ∈ ws.map (·.1), p ∈ own.map (·.2)) (hs : ∀ x, foldedSetIterable a X.env x = pure x := by intro _; rfl) :
    SN X (.ListComp elt [⟨tg, a, [], 0⟩] scope pos) (tLockE (tLc (iKeys (tVar i)) g tYes te (own.map (·.2)))) (fKeys i gf fe (own.map (·.2))) :=
  ⟨pe_lock (pe_lc hc hN (pi_keys hi) ok (fun s H C cl fp => (hg s H C cl fp).pe) (fun _ _ _ _ _ => pts_nil) (fun s H C cl fp => (he s H C cl fp).pe) hs),
    sem_lcK (hg X.s_0 X.H_0 0 [] []).se (he X.s_0 X.H_0 0 [] []).se hw⟩
theorem own1 {i : Nat} {x : Str} : ∀ d ws, gN i d = some ws → ∀ p ∈ ws.map (·.1), p ∈ [(x, i)].map (·.2) := fun d ws h p hp => by
  cases h
  simpa using hp
theorem gs_two {f g : FG} {d : D} {ws : List (Nat × D)} (h : gT (gsC f (gsC g gsN)) d = some ws) : ∃ a b w1 w2, f a = some w1 ∧ g b = some w2 ∧ ws = w1 ++ w2 := by
  unfold gT at h
  split at h
  · rename_i xs
    match xs, h with
    | [], h => simp [gsC] at h
    | [a], h => simp [gsC] at h
    | a :: b :: c :: r, h => simp [gsC, gsN] at h
    | [a, b], h =>
      obtain ⟨w1, h1, h⟩ := Option.bind_eq_some_iff.mp h
      obtain ⟨w2, h2, h⟩ := Option.bind_eq_some_iff.mp h
      obtain ⟨w3, h3, h4⟩ := Option.bind_eq_some_iff.mp h2
      obtain ⟨w4, h5, h6⟩ := Option.bind_eq_some_iff.mp h4
      cases h5
      cases h6
      cases h
      exact ⟨a, b, w1, w3, h1, h3, by simp⟩
  · cases h
theorem own2 {i j : Nat} {x y : Str} : ∀ d ws, gT (gsC (gN i) (gsC (gN j) gsN)) d = some ws → ∀ p ∈ ws.map (·.1), p ∈ [(x, i), (y, j)].map (·.2) := fun d ws h p hp => by
  obtain ⟨a, b, w1, w2, h1, h2, rfl⟩ := gs_two h
  cases h1
  cases h2
  simpa using hp
end
section
variable {X : Cx} {W : XK} {a b c e : Expr} {es : List Expr} {ta tb tc te : TE} {fa fb fc fe : FE} {pos p apos pos' : Pos} {x : Str} {i : Nat} {st : Stmt} {rest : List Stmt} {g h : FS}
theorem sss_nil : SSs X W [] sNext := ⟨_, pss_nil, ss_next⟩
theorem sss_cons (h1 : SS X W st g) (h2 : SSs X W rest h) : SSs X W (st :: rest) (sSeq g h) := by
  obtain ⟨t, p1, s1⟩ := h1
  obtain ⟨u, p2, s2⟩ := h2
  exact ⟨_, pss_cons p1 p2, ss_seq s1 s2⟩
theorem sss_one (h1 : SS X W st g) : SSs X W [st] g := by
  obtain ⟨t, p1, s1⟩ := h1
  exact ⟨_, pss_one p1, s1⟩
theorem sp_frz (i : Nat) (h1 : SS X W st g) : SS X W st (sFrz i g) := by
  obtain ⟨t, p1, s1⟩ := h1
  exact ⟨_, p1, ss_frz s1⟩
theorem sp_set (hN : X.N.Nodup) (hi : X.N[i]? = some x) (hx : Loc X.env.scope x) (he : SE X e te fe) (hs : swapsWith e (some (.Name x pos')) pos.line X.env = pure false := by rfl) (hf : X.fn x = true ∨ X.env.scope.names.lookup x = some .local := by first | exact .inl rfl | exact .inr rfl | assumption) :
    SS X W (.Assign [.Name x pos'] e pos) (sAsg i fe) := ⟨_, ps_set hN hi hx he.pe hs hf, ss_asg he.se⟩
theorem sp_setF (hN : X.N.Nodup) (hi : X.N[i]? = some x) (hx : Loc X.env.scope x) (he : SE X e te fe) (hs : swapsWith e (some (.Name x pos')) pos.line X.env = pure false := by rfl) (hf : X.fn x = true ∨ X.env.scope.names.lookup x = some .local := by first | exact .inl rfl | exact .inr rfl | assumption) :
    SS X W (.Assign [.Name x pos'] e pos) (sAsgF i fe) := ⟨_, ps_set hN hi hx he.pe hs hf, ss_asgF he.se⟩
theorem sp_setN {f : E → Option O} (hN : X.N.Nodup) (hi : X.N[i]? = some x) (hx : Loc X.env.scope x) (he : SN X e te f) (hs : swapsWith e (some (.Name x pos')) pos.line X.env = pure false := by rfl) (hf : X.fn x = true ∨ X.env.scope.names.lookup x = some .local := by first | exact .inl rfl | exact .inr rfl | assumption) :
    SS X W (.Assign [.Name x pos'] e pos) (sAsgN i f) := ⟨_, ps_set hN hi hx he.pe hs hf, ss_asgN he.se⟩
section
variable {elt tg iter : Expr} {ifs : List Expr} {scope : Scope} {own : List (Str × Nat)} {wi : TI} {gg : TG} {tt : TT} {fi : E → Option (List D)} {gf : FG} {fcn : E → Option Bool} {py : Pos} {y : Str}
theorem lc_pe (hc : X.calm = true) (hN : X.N.Nodup) (hy : X.N[i]? = some y) (hyl : X.env.scope.names.lookup y = some .local) (hsw : swapsWith (.ListComp elt [⟨tg, iter, ifs, 0⟩] scope pos) (some (.Name y py)) apos.line X.env = pure true)
    (hi : SI X tg iter wi fi) (ok : BlkOk X.N X.env.scope scope own)
    (hg : ∀ (s : Shared) (H : Hp) (C : Addr) (cl : List (Str × Addr)) (fp : List Addr), SG (X.blk s H scope (compEnvC scope cl C X.env) fp) tg gg gf) (ht : ∀ (s : Shared) (H : Hp) (C : Addr) (cl : List (Str × Addr)) (fp : List Addr), STs (X.blk s H scope (compEnvC scope cl C X.env) fp) ifs tt fcn)
    (he : ∀ (s : Shared) (H : Hp) (C : Addr) (cl : List (Str × Addr)) (fp : List Addr), SE (X.blk s H scope (compEnvC scope cl C X.env) fp) elt te fe) (hw : ∀ d ws, gf d = some ws → ∀ p ∈ ws.map (·.1), p ∈ own.map (·.2)) (hs : ∀ x, foldedSetIterable iter X.env x = pure x := by intro _; rfl) :
    PS X (.Assign [.Name y py] (.ListComp elt [⟨tg, iter, ifs, 0⟩] scope pos) apos) (tAsg (tLc wi gg tt te (own.map (·.2))) (gName i)) ∧ SemN X.K (tLc wi gg tt te (own.map (·.2))) (fLc fi gf fcn fe (own.map (·.2))) :=
  ⟨ps_setLc hc hN hy hyl hsw hi.pe ok (fun s H C cl fp => (hg s H C cl fp).pe) (fun s H C cl fp => (ht s H C cl fp).pe) (fun s H C cl fp => (he s H C cl fp).pe) hs,
    sem_lc hi.se (hg X.s_0 X.H_0 0 [] []).se (ht X.s_0 X.H_0 0 [] []).se (he X.s_0 X.H_0 0 [] []).se hw⟩
/-- name = [..] -/
theorem sp_setLc {t : TE} {f : E → Option O} (h : PS X (.Assign [.Name y py] (.ListComp elt [⟨tg, iter, ifs, 0⟩] scope pos) apos) (tAsg t (gName i)) ∧ SemN X.K t f) : SS X W (.Assign [.Name y py] (.ListComp elt [⟨tg, iter, ifs, 0⟩] scope pos) apos) (sAsg i (eO f)) := ⟨_, h.1, ss_asg h.2.e⟩
theorem sp_setLcN {t : TE} {f : E → Option O} (h : PS X (.Assign [.Name y py] (.ListComp elt [⟨tg, iter, ifs, 0⟩] scope pos) apos) (tAsg t (gName i)) ∧ SemN X.K t f) : SS X W (.Assign [.Name y py] (.ListComp elt [⟨tg, iter, ifs, 0⟩] scope pos) apos) (sAsgN i f) := ⟨_, h.1, ss_asgN h.2⟩
end
theorem sp_asgT {tgt : Expr} {gg : TG} {gf : FG} (he : SE X e te fe) (hg : SG X tgt gg gf) (hs : swapsWithSole [tgt] e pos.line X.env = pure false := by rfl) (hw : swappedStores [tgt] e X.env = pure none := by rfl) (h1 : (assignEach [tgt] X.env).map (·.2) = [assign tgt X.env] := by rfl) :
    SS X W (.Assign [tgt] e pos) (sAsgT gf fe) := ⟨_, ps_asg he.pe hg.pe hs hw h1, ss_asgT he.se hg.se⟩
theorem sp_par {i j : Nat} {x y : Str} {t : TA} {f : E → Option (List D)} {px py pt pt2 : Pos} {kt k2 : Nat} (hc : X.calm = true) (hN : X.N.Nodup) (hi : X.N[i]? = some x) (hj : X.N[j]? = some y) (hij : i ≠ j)
    (hx : X.env.scope.names.lookup x = some .local) (hy : X.env.scope.names.lookup y = some .local) (ha : SA X [a, b] t f)
    (hw : swappedStores [.Tuple [.Name x px, .Name y py] kt pt] (.Tuple [a, b] k2 pt2) X.env = pure (some [x, y]) := by rfl) (hs : swapsWithSole [.Tuple [.Name x px, .Name y py] kt pt] (.Tuple [a, b] k2 pt2) pos.line X.env = pure false := by rfl) :
    SS X W (.Assign [.Tuple [.Name x px, .Name y py] kt pt] (.Tuple [a, b] k2 pt2) pos) (sPar i j f) := ⟨_, ps_par hc hN hi hj hij hx hy ha.pe hw hs, ss_par ha.se⟩
theorem sp_ret (he : SE X e te fe) : SS X W (.Return (some e) pos) (sRet fe) := ⟨_, ps_ret he.pe, ss_ret he.se⟩
theorem sp_retN : SS X W (.Return none pos) sRetN := ⟨_, ps_retN, ss_retN⟩
theorem sp_if {t : TT} {f : E → Option Bool} {aa bb : List Stmt} (hc : ST X c t f) (ha : SSs X W aa g) (hb : SSs X W bb h) : SS X W (.If c aa bb pos) (sIf f g h) := by
  obtain ⟨t1, p1, s1⟩ := ha
  obtain ⟨t2, p2, s2⟩ := hb
  exact ⟨_, ps_if hc.pe p1 p2, ss_if hc.se s1 s2⟩
theorem sp_pass : SS X W (.Pass pos) sNext := ⟨_, ps_pass, ss_next⟩
theorem sp_brk : SS X W (.Break pos) sBrk := ⟨_, ps_break, ss_brk⟩
theorem sp_cont : SS X W (.Continue pos) sCont := ⟨_, ps_continue, ss_cont⟩
theorem sp_app {cpos : Pos} (ho : PE X a (tVar i)) (he : SE X e te fe) (hs : swapsWith (.Call (.Attribute a "append" apos) [e] [] cpos) none pos.line X.env = pure false := by rfl) (hd : starEach [e] X.env = (false, eval e X.env) :: starEach [] X.env := by rfl)
    (hbase : attributeBase a "append" X.env (eval a X.env) = eval a X.env := by rfl) (hfew : (((backTo cpos (starEach [e] X.env)).all fun x => !x.1) && (backToKw cpos (keywordEach [] X.env)).all fun x => x.1.isSome) && decide (([e].length + ([] : List Keyword).length + if ([] : List Keyword).isEmpty = true then 0 else 1) < 30) = true := by rfl)
    (hline : (apos.endLine == cpos.line) = true := by rfl) :
    SS X W (.Expr (.Call (.Attribute a "append" apos) [e] [] cpos) pos) (sApp i fe) :=
  ⟨_, ps_expr (pe_bm (hbase := hbase) (hfew := hfew) (hline := hline) (hs := hd) PySem.F.plainAttrs_list PySem.F.slot_list_append PySem.F.type_list_append mt_append ho (pa_cons he.pe pa_nil hd)) hs, ss_app he.se⟩
theorem sp_put (hu : X.A.units + 1 < cLine) (ho : PE X a (tVar i)) (hk : SE X b tb fb) (hv : SE X e te fe) (hs : swapsWith e (some (.Subscript a b pos')) pos.line X.env = pure false := by rfl) :
    SS X W (.Assign [.Subscript a b pos'] e pos) (sPut i fb fe) := ⟨_, ps_dput hu ho hk.pe hv.pe hs, ss_put hv.se hk.se⟩
theorem sp_for {iter tgt : Expr} {body : List Stmt} {wi : TI} {gg : TG} {fi : E → Option (List D)} {gf : FG} (hp : PassesOwn (model X.prog X.w) X.A X.env X.xe) (hc : X.calm = true) (hi : SI X tgt iter wi fi) (hg : SG X tgt gg gf) (hb : SSs X W body g)
    (hs : ∀ x, foldedSetIterable iter X.env x = pure x := by intro _; rfl) : SS X W (.For tgt iter body [] pos) (sFor fi gf g) := by
  obtain ⟨t1, p1, s1⟩ := hb
  exact ⟨_, ps_for hp hc hi.pe hg.pe p1 hs, ss_for hi.se hg.se s1⟩
theorem sp_doc {s : Str} {j : Nat} : SS X W (.Expr (.Constant (.str s) j apos) pos) sNext := ⟨_, ps_doc, ss_next⟩
end
/-! a def -/
section
variable {P : Program} {w : World} {K : PySem.W.Frag} {mg : Str → Option Value} {base : Heap}
theorem rs_start {N : List Str} {ds : List D} {vs : List V} {F H : Hp} (e : Ex F H) (r : Reps K F ds vs) (hl : ds.length ≤ N.length) : RS K F H F H (L2.start N vs) (ds.map Slot.sh ++ List.replicate (N.length - ds.length) Slot.no) := by
  have hlen := r.len
  refine ⟨.refl e, ?_, fun i d h => ?_, fun i o h => ?_, fun i j o o' a h => ?_⟩
  · unfold L2.start
    simp [hlen]
  · by_cases hi : i < ds.length
    · rw [List.getElem?_append_left (by simpa using hi), List.getElem?_map] at h
      obtain ⟨d', h1, h2⟩ := Option.map_eq_some_iff.mp h
      cases h2
      obtain ⟨v, h3, h4⟩ := r.get h1
      refine ⟨v, ?_, h4⟩
      unfold L2.start
      rw [List.getElem?_append_left (by rw [List.length_map, ← hlen]; exact hi), List.getElem?_map, h3]
      rfl
    · rw [List.getElem?_append_right (by simpa using hi), List.getElem?_replicate] at h
      split at h <;> cases h
  · by_cases hi : i < ds.length
    · rw [List.getElem?_append_left (by simpa using hi), List.getElem?_map] at h
      obtain ⟨d', h1, h2⟩ := Option.map_eq_some_iff.mp h
      cases h2
    · rw [List.getElem?_append_right (by simpa using hi), List.getElem?_replicate] at h
      split at h <;> cases h
  · exfalso
    by_cases hi : i < ds.length
    · rw [List.getElem?_append_left (by simpa using hi), List.getElem?_map] at h
      obtain ⟨d', h1, h2⟩ := Option.map_eq_some_iff.mp h
      cases h2
    · rw [List.getElem?_append_right (by simpa using hi), List.getElem?_replicate] at h
      split at h <;> cases h
theorem fn_mk {x : Str} {st : Stmt} {f : Addr} {fd : FuncData} {N ps : List Str} {k : Nat} {g : FS} (Fn : Fun K x x st f fd) (S : FnScope N ps (defScope st)) (hpl : ps.length ≤ N.length)
    (body : ∀ (cdv : Value) (A : Around) (outer : List Env) (s : Shared) (H : Hp) (W : XK), Room k (A.deeper (envOfC x (defScope st) s.heap.objs.size f cdv)) →
      SSs (cxOf CX0 P w K mg base N x (defScope st) f cdv A outer s H W).nox E0 (defBody st) g) : FnOk P w K mg base CX0 (k + 1) f fd ps (spD K ps.length (defM N.length ps.length g)) := by
  refine Fn.ok S (fun vs H Q W h => ?_) (fun cdv A outer s H vs Q W hr h => ?_)
  · obtain ⟨F, ds, d, _, _, hl, _⟩ := h
    exact hl
  · obtain ⟨F, ds, d, e, r, hl, hd, q⟩ := h
    obtain ⟨t, hp, hs⟩ := body cdv A outer s H W hr
    refine ⟨t, hp, ?_⟩
    have hdl : ds.length = ps.length := by rw [r.len, hl]
    unfold defM at hd
    rw [if_pos hdl] at hd
    obtain ⟨o, ho, hd⟩ := Option.bind_eq_some_iff.mp hd
    rw [← hdl] at ho
    refine hs F H F H _ _ (rs_start e r (by omega)) o ho _ ?_
    cases o with
    | nx ρ =>
      cases hd
      exact fun F1 H1 σ r1 _ => q _ F1 H1 r1.gr (rep_non.mpr rfl)
    | rt d' =>
      cases hd
      exact fun F1 H1 v g1 r1 => q v F1 H1 g1 r1
    | bk ρ => cases hd
    | ct ρ => cases hd
    | ex c => cases hd
theorem fx_mk {x : Str} {st : Stmt} {f : Addr} {fd : FuncData} {N ps : List Str} {k : Nat} {g : FS} (Fn : Fun K x x st f fd) (S : FnScope N ps (defScope st)) (hmg : mg x = some (.ref f)) (hb : Binds K fd ps []) (hpl : ps.length ≤ N.length)
    (body : ∀ (cdv : Value) (A : Around) (outer : List Env) (s : Shared) (H : Hp) (W : XK), Room k (A.deeper (envOfC x (defScope st) s.heap.objs.size f cdv)) →
      SSs (cxOf CX0 P w K mg base N x (defScope st) f cdv A outer s H W).nox E0 (defBody st) g) : Fx P w K mg base (k + 1) x ps.length (defM N.length ps.length g) :=
  ⟨⟨f, fd, ps, fn_mk Fn S hpl body, hmg, Fn.kp, hb⟩, fun ds d h => defM_len ds d h⟩
theorem fn_mkL {x : Str} {st : Stmt} {f : Addr} {fd : FuncData} {N ps : List Str} {k n m : Nat} {g : FS} (Fn : Fun K x x st f fd) (S : FnScope N ps (defScope st)) (hpl : ps.length ≤ N.length) (hn : ps.length = n) (hm : N.length = m)
    (body : ∀ (cdv : Value) (A : Around) (outer : List Env) (s : Shared) (H : Hp) (W : XK), Room k (A.deeper (envOfC x (defScope st) s.heap.objs.size f cdv)) →
      SSs (cxOf CX0 P w K mg base N x (defScope st) f cdv A outer s H W).nox E0 (defBody st) g) : FnOk P w K mg base CX0 (k + 1) f fd ps (spD K n (defM m n g)) := by
  subst hn hm
  exact fn_mk Fn S hpl body
theorem fx_mkL {x : Str} {st : Stmt} {f : Addr} {fd : FuncData} {N ps : List Str} {k n m : Nat} {g : FS} (Fn : Fun K x x st f fd) (S : FnScope N ps (defScope st)) (hmg : mg x = some (.ref f)) (hb : Binds K fd ps []) (hpl : ps.length ≤ N.length) (hn : ps.length = n) (hm : N.length = m)
    (body : ∀ (cdv : Value) (A : Around) (outer : List Env) (s : Shared) (H : Hp) (W : XK), Room k (A.deeper (envOfC x (defScope st) s.heap.objs.size f cdv)) →
      SSs (cxOf CX0 P w K mg base N x (defScope st) f cdv A outer s H W).nox E0 (defBody st) g) : Fx P w K mg base (k + 1) x n (defM m n g) := by
  subst hn hm
  exact fx_mk Fn S hmg hb hpl body
end
end Mi

/-! Mi10: written dicts with texts as keys, read at known words. -/
namespace Mi
open PySem PySem.Spec PyProof.Rows L2
abbrev Tab := List (Str × Option D)
structure KTab (K : PySem.W.Frag) (w : World) (d : Addr) (tbl : Tab) : Prop where
  kd : ∃ es n, KDict K w d es n
  at_ : ∀ z o, tbl.lookup z = some o → match o with
    | none => PySem.W.nsIn K d z = some none
    | some dd => ∃ u v, PySem.W.nsIn K d z = some (some u) ∧ RelV v u ∧ ∀ F, Rep K F dd v
def kIn (tbl : Tab) : D → Option D
  | .str z => (tbl.lookup z).map fun o => .bl o.isSome
  | _ => none
def kNin (tbl : Tab) : D → Option D
  | .str z => (tbl.lookup z).map fun o => .bl (!o.isSome)
  | _ => none
def kIx (tbl : Tab) : D → Option D
  | .str z => (tbl.lookup z).bind id
  | _ => none
section
variable {X : Cx} {a b : Expr} {ta : TE} {fa : FE} {pos : Pos} {x : Str} {d : Addr} {tbl : Tab}
theorem sem_kin {r : R2} (hr : ∀ (x : V) (H : Hp) (Q : VK) (z : Str) (o : Option Value), x = .str z → PySem.W.nsIn X.K d z = some o → Q (.bl o.isSome) H → r x (.ref d) H Q) (T : KTab X.K X.w d tbl) (ha : SemE X.K ta fa) : SemE X.K (tOp r ta (tC (.ref d))) (e1 (kIn tbl) fa) := fun F H σ ρ e re dd h Q q => by
  obtain ⟨y, h1, h2⟩ := Option.bind_eq_some_iff.mp h
  refine ha F H σ ρ e re y h1 _ fun v F1 H1 g1 r1 => ?_
  unfold kIn at h2
  split at h2
  · obtain ⟨o, h3, rfl⟩ := Option.map_eq_some_iff.mp h2
    have z := T.at_ _ _ h3
    cases o with
    | none => exact hr v H1 Q _ none (rep_str.mp r1) z (q _ F1 H1 g1 (rep_bl.mpr rfl))
    | some dd =>
      obtain ⟨u, v', e1, _⟩ := z
      exact hr v H1 Q _ (some u) (rep_str.mp r1) e1 (q _ F1 H1 g1 (rep_bl.mpr rfl))
  · cases h2
theorem sem_knin {r : R2} (hr : ∀ (x : V) (H : Hp) (Q : VK) (z : Str) (o : Option Value), x = .str z → PySem.W.nsIn X.K d z = some o → Q (.bl (!o.isSome)) H → r x (.ref d) H Q) (T : KTab X.K X.w d tbl) (ha : SemE X.K ta fa) : SemE X.K (tOp r ta (tC (.ref d))) (e1 (kNin tbl) fa) := fun F H σ ρ e re dd h Q q => by
  obtain ⟨y, h1, h2⟩ := Option.bind_eq_some_iff.mp h
  refine ha F H σ ρ e re y h1 _ fun v F1 H1 g1 r1 => ?_
  unfold kNin at h2
  split at h2
  · obtain ⟨o, h3, rfl⟩ := Option.map_eq_some_iff.mp h2
    have z := T.at_ _ _ h3
    cases o with
    | none => exact hr v H1 Q _ none (rep_str.mp r1) z (q _ F1 H1 g1 (rep_bl.mpr rfl))
    | some dd =>
      obtain ⟨u, v', e1, _⟩ := z
      exact hr v H1 Q _ (some u) (rep_str.mp r1) e1 (q _ F1 H1 g1 (rep_bl.mpr rfl))
  · cases h2
def rKin (K : PySem.W.Frag) (d : Addr) : R2 := fun x y H Q => ∃ (z : Str) (r : Option Value), x = .str z ∧ y = .ref d ∧ PySem.W.nsIn K d z = some r ∧ Q (.bl r.isSome) H
def rKnin (K : PySem.W.Frag) (d : Addr) : R2 := fun x y H Q => ∃ (z : Str) (r : Option Value), x = .str z ∧ y = .ref d ∧ PySem.W.nsIn K d z = some r ∧ Q (.bl (!r.isSome)) H
theorem op_kin (T : KTab X.K X.w d tbl) : OpR X (compareOp .In) (rKin X.K d) := by
  obtain ⟨es, n, D⟩ := T.kd
  exact op_in_kd D
theorem op_knin (T : KTab X.K X.w d tbl) : OpR X (compareOp .NotIn) (rKnin X.K d) := by
  obtain ⟨es, n, D⟩ := T.kd
  exact op_notIn_kd D
theorem pe_kd {u : Value} (hg : Gl X x) (hm : X.mg x = some (.ref d)) (hd : (x == ("__debug__" : Str)) = false := by decide) : PE X (.Name x pos) (tC (.ref d)) := pe_glob hg hm (show RelV (.ref d) (.ref d) from rfl) hd
variable {p : Pos}
theorem se_kin (T : KTab X.K X.w d tbl) (ha : SE X a ta fa) (hg : Gl X x) (hm : X.mg x = some (.ref d)) (hd : (x == ("__debug__" : Str)) = false := by decide) : SE X (.Compare a [.In] [.Name x p] pos) (tOp (rKin X.K d) ta (tC (.ref d))) (e1 (kIn tbl) fa) :=
  ⟨pe_cmpR (op_kin T) ha.pe (pe_glob hg hm (show RelV (.ref d) (.ref d) from rfl) hd) (by with_unfolding_all rfl), sem_kin (fun x H Q z o e1 e2 q => ⟨z, o, e1, rfl, e2, q⟩) T ha.se⟩
theorem st_kin (T : KTab X.K X.w d tbl) (ha : SE X a ta fa) (hg : Gl X x) (hm : X.mg x = some (.ref d)) (hd : (x == ("__debug__" : Str)) = false := by decide) : ST X (.Compare a [.In] [.Name x p] pos) (tTest (tOp (rKin X.K d) ta (tC (.ref d)))) (tB (e1 (kIn tbl) fa)) :=
  ⟨pt_cmpR (op_kin T) ha.pe (pe_glob hg hm (show RelV (.ref d) (.ref d) from rfl) hd) (by with_unfolding_all rfl), sem_test (sem_kin (fun x H Q z o e1 e2 q => ⟨z, o, e1, rfl, e2, q⟩) T ha.se)⟩
theorem se_knin (T : KTab X.K X.w d tbl) (ha : SE X a ta fa) (hg : Gl X x) (hm : X.mg x = some (.ref d)) (hd : (x == ("__debug__" : Str)) = false := by decide) : SE X (.Compare a [.NotIn] [.Name x p] pos) (tOp (rKnin X.K d) ta (tC (.ref d))) (e1 (kNin tbl) fa) :=
  ⟨pe_cmpR (op_knin T) ha.pe (pe_glob hg hm (show RelV (.ref d) (.ref d) from rfl) hd) (by with_unfolding_all rfl), sem_knin (fun x H Q z o e1 e2 q => ⟨z, o, e1, rfl, e2, q⟩) T ha.se⟩
theorem st_knin (T : KTab X.K X.w d tbl) (ha : SE X a ta fa) (hg : Gl X x) (hm : X.mg x = some (.ref d)) (hd : (x == ("__debug__" : Str)) = false := by decide) : ST X (.Compare a [.NotIn] [.Name x p] pos) (tTest (tOp (rKnin X.K d) ta (tC (.ref d)))) (tB (e1 (kNin tbl) fa)) :=
  ⟨pt_cmpR (op_knin T) ha.pe (pe_glob hg hm (show RelV (.ref d) (.ref d) from rfl) hd) (by with_unfolding_all rfl), sem_test (sem_knin (fun x H Q z o e1 e2 q => ⟨z, o, e1, rfl, e2, q⟩) T ha.se)⟩
theorem sem_kix (T : KTab X.K X.w d tbl) (ha : SemE X.K ta fa) : SemE X.K (tOp (rIxD X.K X.w) (tC (.ref d)) ta) (e1 (kIx tbl) fa) := fun F H σ ρ e re dd h Q q => by
  obtain ⟨y, h1, h2⟩ := Option.bind_eq_some_iff.mp h
  refine ha F H σ ρ e re y h1 _ fun v F1 H1 g1 r1 => ?_
  unfold kIx at h2
  split at h2
  · obtain ⟨o, h3, h4⟩ := Option.bind_eq_some_iff.mp h2
    have h4 : o = some dd := h4
    subst h4
    obtain ⟨u, v', e1, e2, e3⟩ := T.at_ _ _ h3
    obtain ⟨es, n, D⟩ := T.kd
    exact ⟨d, _, v', rfl, rep_str.mp r1, ⟨es, n, u, D.at_, D.lit, e1, e2⟩, q _ F1 H1 g1 (e3 F1)⟩
  · cases h2
theorem se_kix (T : KTab X.K X.w d tbl) (ha : SE X a ta fa) (hg : Gl X x) (hm : X.mg x = some (.ref d)) (hs : PlainIx a := by intro _ _; rfl) (hd : (x == ("__debug__" : Str)) = false := by decide) : SE X (.Subscript (.Name x p) a pos) (tOp (rIxD X.K X.w) (tC (.ref d)) ta) (e1 (kIx tbl) fa) :=
  ⟨pe_ix ix_kdict (pe_glob hg hm (show RelV (.ref d) (.ref d) from rfl) hd) ha.pe hs, sem_kix T ha.se⟩
end
end Mi
namespace Mi
open PySem PySem.Spec PyProof.Rows L2
theorem mb_abs : bootBuiltins "abs" = some (.builtin "abs") := by decide +kernel
theorem mb_all : bootBuiltins "all" = some (.builtin "all") := by decide +kernel
theorem mb_any : bootBuiltins "any" = some (.builtin "any") := by decide +kernel
theorem mb_sum : bootBuiltins "sum" = some (.builtin "sum") := by decide +kernel
theorem mb_int : bootBuiltins "int" = some (.type "int") := by decide +kernel
theorem mb_bool : bootBuiltins "bool" = some (.type "bool") := by decide +kernel
theorem mb_str : bootBuiltins "str" = some (.type "str") := by decide +kernel
theorem mb_tuple : bootBuiltins "tuple" = some (.type "tuple") := by decide +kernel
theorem mb_list : bootBuiltins "list" = some (.type "list") := by decide +kernel
theorem mb_dict : bootBuiltins "dict" = some (.type "dict") := by decide +kernel
theorem mb_type : bootBuiltins "type" = some (.type "type") := by decide +kernel
theorem mb_sorted : bootBuiltins "sorted" = some (.builtin "sorted") := by decide +kernel
theorem mb_isinstance : bootBuiltins "isinstance" = some (.builtin "isinstance") := by decide +kernel
section
variable {X : Cx} {e : Expr} {te : TE} {fe : FE} {pos p : Pos}
theorem sp_nil : SP X pos [] [] [] pNil := ⟨pps_nil, sem_pNil⟩
theorem sp_cons {k : Str} {j : Nat} {ks : List (Option Expr)} {vs : List Expr} {trs : List (TE × TE)} {f : E → Option (List (Key × D))} (hv : SE X e te fe) (hr : SP X pos ks vs trs f) : SP X pos (some (.Constant (.str k) j p) :: ks) (e :: vs) ((tC (.str k), te) :: trs) (pCons k fe f) := ⟨pps_cons pe_str hv.pe hr.pe, sem_pCons hv.se hr.se⟩
theorem sn_disp {ks : List (Option Expr)} {vs : List Expr} {trs : List (TE × TE)} {f : E → Option (List (Key × D))} (h : SP X pos ks vs trs f) (hall : ks.all (·.isSome) = true := by rfl) (hl : ks.length = vs.length := by rfl) (h0 : ks ≠ [] := by exact fun z => by cases z) (h15 : ks.length ≤ 15 := by decide) :
    SN X (.Dict ks vs pos) (tDisp trs) (fDisp f) := ⟨pe_disp h.pe hall hl h0 h15, sem_disp h.se⟩
end
end Mi

/-! Mi11: the rules with the written part told by name, for blocks. -/
namespace Mi
open PySem PySem.Spec PyProof.Rows L2
section
variable {X : Cx} (K : PySem.W.Frag)
theorem op_add' (hK : X.K = K := by rfl) : OpR X (binaryOp .Add) (rAddA K) := hK ▸ op_addA
theorem op_mul' (hK : X.K = K := by rfl) : OpR X (binaryOp .Mult) (rMulA K) := hK ▸ op_mulA
theorem op_eq' (hu : X.A.units + 64 < cLine) (hK : X.K = K := by rfl) : OpR X (compareOp .Eq) (rEqA K) := hK ▸ op_eqA hu
theorem op_ne' (hu : X.A.units + 64 < cLine) (hK : X.K = K := by rfl) : OpR X (compareOp .NotEq) (rNeA K) := hK ▸ op_neA hu
theorem op_in' (hu : X.A.units + 1 < cLine) (hK : X.K = K := by rfl) : OpR X (compareOp .In) (rInA K) := hK ▸ op_inA hu
theorem op_nin' (hu : X.A.units + 1 < cLine) (hK : X.K = K := by rfl) : OpR X (compareOp .NotIn) (rNinA K) := hK ▸ op_ninA hu
theorem cl_len (hK : X.K = K := by rfl) : CallR X (.builtin "len") (rLenA K) := hK ▸ call_lenA
theorem cl_all (hc : X.calm = true) (hK : X.K = K := by rfl) : CallR X (.builtin "all") (rAll K) := hK ▸ cr_all hc
theorem cl_any (hc : X.calm = true) (hK : X.K = K := by rfl) : CallR X (.builtin "any") (rAny K) := hK ▸ cr_any hc
theorem cl_sum (hc : X.calm = true) (hK : X.K = K := by rfl) : CallR X (.builtin "sum") (rSum K) := hK ▸ cr_sum hc
theorem cl_type (hK : X.K = K := by rfl) : CallR X (.type "type") (rTyp K) := hK ▸ call_type1
theorem cl_tuple (hK : X.K = K := by rfl) : CallR X (.type "tuple") (fun xs H Q => ∃ p ys, xs = [.ref p] ∧ ((SqL K H p ys ∧ ∀ l, H l = none → Q (.ref l) (upd H l (.tup ys))) ∨ (SqT K H p ys ∧ Q (.ref p) H))) := hK ▸ call_tuple_of
theorem cl_list (hK : X.K = K := by rfl) : CallR X (.type "list") (fun xs H Q => ∃ p ys, xs = [.ref p] ∧ (SqL K H p ys ∨ SqT K H p ys) ∧ ∀ l, H l = none → Q (.ref l) (upd H l (.lst ys))) := hK ▸ call_list_of
end
section
variable {X : Cx} (K : PySem.W.Frag) {a b c e : Expr} {es : List Expr} {ta tb tc te : TE} {fa fb fc fe : FE} {pos p apos : Pos} {x : Str}
theorem sx_ix (hu : X.A.units + 1 < cLine) (ha : SE X a ta fa) (hb : SE X b tb fb) (hs : PlainIx b := by intro _ _; rfl) (hK : X.K = K := by rfl) : SE X (.Subscript a b pos) (tOp (rIxA K) ta tb) (e2 dIx fa fb) := by
  subst hK
  exact se_ix hu ha hb hs
theorem sx_sl {lo hi : Option Expr} {tl th : TO} {fl fh : E → Option (Option Int)} {p2 : Pos} (h : SE X e te fe) (hl : SO X lo tl fl) (hh : SO X hi th fh) (hK : X.K = K := by rfl) : SE X (.Subscript e (.Slice lo hi none p2) pos) (tSl (rSl K) te tl th) (eSl fe fl fh) := by
  subst hK
  exact se_sl h hl hh
theorem sx_rev {k : Nat} {p1 p2 p3 : Pos} (h : SE X e te fe) (hK : X.K = K := by rfl) : SN X (.Subscript e (.Slice none none (some (.UnaryOp .USub (.Constant (.int 1) k p1) p2)) p3) pos) (tRevL K te) (eN1 dRev fe) := by
  subst hK
  exact sn_rev h
theorem sx_seq {tg : Expr} (h : SE X e te fe) (hK : X.K = K := by rfl) : SI X tg e (iSeq K te) (fSeq fe) := by
  subst hK
  exact si_seq h
section
variable {t : TA} {f : E → Option (List D)} {tg : Expr}
theorem sx_enum {k : Nat} {tp : Pos} (hg : Gl X "enumerate") (hm : X.mg "enumerate" = none) (h : SA X [a] t f) (hs : starEach [a] X.env = [(false, eval a X.env)] := by rfl) (hK : X.K = K := by rfl) : SI X (.Tuple es k tp) (.Call (.Name "enumerate" p) [a] [] pos) (iEnumA K t) (fEnum f) := by
  subst hK
  exact si_enum hg hm h hs
theorem sx_zip {k : Nat} {tp : Pos} (hg : Gl X "zip") (hm : X.mg "zip" = none) (h : SA X [a, b] t f) (hs : starEach [a, b] X.env = (false, eval a X.env) :: starEach [b] X.env := by rfl) (hpl : (backTo pos (starEach [b] X.env)).any (·.1) = false := by rfl) (hK : X.K = K := by rfl) :
    SI X (.Tuple es k tp) (.Call (.Name "zip" p) [a, b] [] pos) (RZ.iZipA K t) (fZip f) := by
  subst hK
  exact si_zip hg hm h hs hpl
theorem sx_call {P : Program} {w : World} {mg : Str → Option Value} {base : Heap} {k n : Nat} {m : List D → Option D} (F : Fx P w K mg base k x n m) (hr : Room k X.A) (hg : Gl X x) (ha : SA X (e :: es) t f) (hP : X.prog = P := by rfl) (hw : X.w = w := by rfl) (hK : X.K = K := by rfl) (hmg : X.mg = mg := by rfl) (hb : X.base = base := by rfl)
    (hdb : (x == ("__debug__" : Str)) = false := by decide) (he : starEach (e :: es) X.env = (false, eval e X.env) :: starEach es X.env := by rfl)
    (hpl : (backTo pos (starEach es X.env)).any (·.1) = false := by rfl) : SE X (.Call (.Name x p) (e :: es) [] pos) (tCall (spD K n m) [] E0 t) (eA m f) := by
  subst hP hw hK hmg hb
  exact se_call F hr hg ha hdb he hpl
end
theorem sx_t {k n : Nat} {u : TGs} {fs : List D → Option (List (Nat × D))} (hc : X.calm = true) (h : SGs X es u fs) (hl : ∀ xs ws, fs xs = some ws → xs.length = n) (hn : (assignEach es X.env).length = n := by rfl) (hst : (assignEach es X.env).findIdx? (·.1) = none := by rfl) (hK : X.K = K := by rfl) : SG X (.Tuple es k pos) (gTup K n u) (gT fs) := by
  subst hK
  exact sg_t hc h hl hn hst
variable {w : World} {d : Addr} {tbl : Tab} {mg : Str → Option Value}
theorem sx_kin (T : KTab K w d tbl) (ha : SE X a ta fa) (hg : Gl X x) (hm : X.mg x = some (.ref d)) (hd : (x == ("__debug__" : Str)) = false := by decide) (hK : X.K = K := by rfl) (hw : X.w = w := by rfl) : SE X (.Compare a [.In] [.Name x p] pos) (tOp (rKin K d) ta (tC (.ref d))) (e1 (kIn tbl) fa) := by
  subst hK hw
  exact se_kin T ha hg hm hd
theorem tx_kin (T : KTab K w d tbl) (ha : SE X a ta fa) (hg : Gl X x) (hm : X.mg x = some (.ref d)) (hd : (x == ("__debug__" : Str)) = false := by decide) (hK : X.K = K := by rfl) (hw : X.w = w := by rfl) : ST X (.Compare a [.In] [.Name x p] pos) (tTest (tOp (rKin K d) ta (tC (.ref d)))) (tB (e1 (kIn tbl) fa)) := by
  subst hK hw
  exact st_kin T ha hg hm hd
theorem sx_knin (T : KTab K w d tbl) (ha : SE X a ta fa) (hg : Gl X x) (hm : X.mg x = some (.ref d)) (hd : (x == ("__debug__" : Str)) = false := by decide) (hK : X.K = K := by rfl) (hw : X.w = w := by rfl) : SE X (.Compare a [.NotIn] [.Name x p] pos) (tOp (rKnin K d) ta (tC (.ref d))) (e1 (kNin tbl) fa) := by
  subst hK hw
  exact se_knin T ha hg hm hd
theorem tx_knin (T : KTab K w d tbl) (ha : SE X a ta fa) (hg : Gl X x) (hm : X.mg x = some (.ref d)) (hd : (x == ("__debug__" : Str)) = false := by decide) (hK : X.K = K := by rfl) (hw : X.w = w := by rfl) : ST X (.Compare a [.NotIn] [.Name x p] pos) (tTest (tOp (rKnin K d) ta (tC (.ref d)))) (tB (e1 (kNin tbl) fa)) := by
  subst hK hw
  exact st_knin T ha hg hm hd
theorem sx_kix (T : KTab K w d tbl) (ha : SE X a ta fa) (hg : Gl X x) (hm : X.mg x = some (.ref d)) (hs : PlainIx a := by intro _ _; rfl) (hd : (x == ("__debug__" : Str)) = false := by decide) (hK : X.K = K := by rfl) (hw : X.w = w := by rfl) : SE X (.Subscript (.Name x p) a pos) (tOp (rIxD K w) (tC (.ref d)) ta) (e1 (kIx tbl) fa) := by
  subst hK hw
  exact se_kix T ha hg hm hs hd
end
section
variable {X : Cx} {x : Str} {pos : Pos}
theorem se_gi {i : Int} {t : Tok} (hm : X.mg x = some (.int i t)) (hg : Gl X x := by rfl) (hd : (x == ("__debug__" : Str)) = false := by decide) : SE X (.Name x pos) (tC (.int i)) (eC (.int i)) := se_glob hg hm (show RelV (.int i) (.int i t) from ⟨t, rfl⟩) (fun _ => rep_int.mpr rfl) hd
theorem se_gr {a : Addr} {d : D} (hm : X.mg x = some (.ref a)) (h : ∀ F, Rep X.K F d (.ref a)) (hg : Gl X x := by rfl) (hd : (x == ("__debug__" : Str)) = false := by decide) : SE X (.Name x pos) (tC (.ref a)) (eC d) := se_glob hg hm (show RelV (.ref a) (.ref a) from rfl) h hd
end
end Mi

/-! Mi12: mirrors evaluated. -/
namespace Mi
open PySem PySem.Spec PyProof.Rows L2
section
variable {ρ : E} {r : SEnv} {fa fb fc : FE} {a b c d : D} {l xs ys : List D} {i j : Nat} {n m : Int} {k w : Str} {g h : FS} {tf uf : E → Option Bool} {fi fl : E → Option (List D)}
@[simp] theorem v_var : eVar i ρ = (ρ[i]?).bind id := rfl
@[simp] theorem v_c : eC d ρ = some d := rfl
@[simp] theorem v_e2 {f : D → D → Option D} : e2 f fa fb ρ = (fa ρ).bind fun a => (fb ρ).bind fun b => f a b := rfl
@[simp] theorem v_e1 {f : D → Option D} : e1 f fa ρ = (fa ρ).bind f := rfl
@[simp] theorem v_eN2 {f : D → D → Option O} : eN2 f fa fb ρ = (fa ρ).bind fun a => (fb ρ).bind fun b => f a b := rfl
@[simp] theorem v_eN1 {f : D → Option O} : eN1 f fa ρ = (fa ρ).bind f := rfl
@[simp] theorem v_eA {f : List D → Option D} : eA f fl ρ = (fl ρ).bind f := rfl
@[simp] theorem v_eNA {f : List D → Option O} : eNA f fl ρ = (fl ρ).bind f := rfl
@[simp] theorem v_eO {f : E → Option O} : eO f ρ = (f ρ).map O.d := rfl
@[simp] theorem v_nil : aNil ρ = some [] := rfl
@[simp] theorem v_cons : aCons fa fl ρ = (fa ρ).bind fun a => (fl ρ).bind fun r => some (a :: r) := rfl
@[simp] theorem v_tB : tB fa ρ = (fa ρ).bind D.b? := rfl
@[simp] theorem v_b {x : Bool} : (D.bl x).b? = some x := rfl
@[simp] theorem v_i : (D.int n).i? = some n := rfl
@[simp] theorem v_and : fAnd tf uf ρ = (tf ρ).bind fun b => if b = true then uf ρ else some false := rfl
@[simp] theorem v_or : fOr tf uf ρ = (tf ρ).bind fun b => if b = true then some true else uf ρ := rfl
@[simp] theorem v_not : fNot tf ρ = (tf ρ).bind fun b => some (!b) := rfl
@[simp] theorem v_andV : fAndV fa fb ρ = (fa ρ).bind fun a => a.b?.bind fun b => if b = true then fb ρ else some (.bl false) := rfl
@[simp] theorem v_orV : fOrV fa fb ρ = (fa ρ).bind fun a => a.b?.bind fun b => if b = true then some (.bl true) else fb ρ := rfl
@[simp] theorem v_notV : fNotV fa ρ = (fa ρ).bind fun a => a.b?.bind fun b => some (.bl (!b)) := rfl
@[simp] theorem v_if : fIf tf fa fb ρ = (tf ρ).bind fun b => if b = true then fa ρ else fb ρ := rfl
@[simp] theorem v_chain {f f' : D → D → Option D} : fChain f f' fa fb fc ρ = (fa ρ).bind fun a => (fb ρ).bind fun b => (f a b).bind fun z => z.b?.bind fun k => if k = true then (fc ρ).bind fun c => f' b c else some (.bl false) := rfl
@[simp] theorem v_tup : fTup fl ρ = (fl ρ).bind fun xs => if xs.length ≤ 100000 then some (.tup xs) else none := rfl
@[simp] theorem v_lst : fLst fl ρ = (fl ρ).bind fun xs => if xs.length ≤ 100000 then some (.l xs) else none := rfl
@[simp] theorem v_yes : fYes ρ = some true := rfl
@[simp] theorem v_Ol : (O.l xs).d = .lst xs := rfl
@[simp] theorem v_Ok {kvs : List (Key × D)} : (O.k kvs).d = .dK kvs := rfl
@[simp] theorem v_Ot {kvs : List (List Key × D)} : (O.t kvs).d = .dT kvs := rfl
@[simp] theorem v_hid : hid r = r.map Slot.hid := rfl
@[simp] theorem v_full : full r = r.map Slot.full := rfl
@[simp] theorem v_hs : (Slot.sh d).hid = some d := rfl
@[simp] theorem v_hn : (Slot.no).hid = none := rfl
@[simp] theorem v_ho {o : O} : (Slot.ow o).hid = none := rfl
@[simp] theorem v_fs : (Slot.sh d).full = some d := rfl
@[simp] theorem v_fn : (Slot.no).full = none := rfl
@[simp] theorem v_fo {o : O} : (Slot.ow o).full = some o.d := rfl
@[simp] theorem v_next : sNext r = some (.nx r) := rfl
@[simp] theorem v_seq : sSeq g h r = (g r).bind fun o => match o with
  | .nx ρ' => h ρ'
  | o => some o := rfl
@[simp] theorem v_asg : sAsg i fa r = (fa (hid r)).bind fun d => some (.nx (r.set i (.sh d))) := rfl
@[simp] theorem v_asgF : sAsgF i fa r = (fa (full r)).bind fun d => d.flat?.bind fun _ => some (.nx (r.set i (.sh d))) := rfl
@[simp] theorem v_asgN {f : E → Option O} : sAsgN i f r = (f (hid r)).bind fun o => some (.nx (r.set i (.ow o))) := rfl
@[simp] theorem v_asgT {tg : FG} : sAsgT tg fa r = (fa (hid r)).bind fun d => (tg d).bind fun ws => some (.nx (putR r ws)) := rfl
@[simp] theorem v_par : sPar i j fl r = (fl (hid r)).bind fun ds => match ds with
  | [a, b] => some (.nx ((r.set i (.sh a)).set j (.sh b)))
  | _ => none := rfl
@[simp] theorem v_ret : sRet fa r = (fa (hid r)).bind fun d => some (.rt d) := rfl
@[simp] theorem v_retN : sRetN r = some (.rt .non) := rfl
@[simp] theorem v_sif : sIf tf g h r = (tf (full r)).bind fun b => if b = true then g r else h r := rfl
@[simp] theorem v_brk : sBrk r = some (.bk r) := rfl
@[simp] theorem v_cont : sCont r = some (.ct r) := rfl
@[simp] theorem v_frz : sFrz i g r = g (frz i r) := rfl
@[simp] theorem v_for {tg : FG} : sFor fi tg g r = (fi (hid r)).bind fun ds => forF tg g ds r := rfl
@[simp] theorem v_app : sApp i fa r = (fa (hid r)).bind fun d => match r[i]? with
  | some (.ow (.l xs)) => if xs.length < 100000 then some (.nx (r.set i (.ow (.l (xs ++ [d]))))) else none
  | _ => none := rfl
@[simp] theorem v_gN : gN i d = some [(i, d)] := rfl
@[simp] theorem v_gsN : gsN [] = some [] := rfl
@[simp] theorem v_gsC {f : FG} {fs : List D → Option (List (Nat × D))} : gsC f fs (d :: xs) = (f d).bind fun w => (fs xs).bind fun ws => some (w ++ ws) := rfl
@[simp] theorem v_gT {fs : List D → Option (List (Nat × D))} : gT fs (.tup xs) = fs xs := rfl
@[simp] theorem v_putE0 : putE ρ [] = ρ := rfl
@[simp] theorem v_putE {ws : List (Nat × D)} : putE ρ ((i, d) :: ws) = putE (ρ.set i (some d)) ws := rfl
@[simp] theorem v_putR0 : putR r [] = r := rfl
@[simp] theorem v_putR {ws : List (Nat × D)} : putR r ((i, d) :: ws) = putR (r.set i (.sh d)) ws := rfl
@[simp] theorem v_wipe0 : wipeE ρ [] = ρ := rfl
@[simp] theorem v_wipe {vs : List Nat} : wipeE ρ (i :: vs) = (wipeE ρ vs).set i none := rfl
@[simp] theorem v_lc {tg : FG} {vs : List Nat} : fLc fi tg tf fa vs ρ = (fi ρ).bind fun ds => if ds.length ≤ 50000 then (lcF tg tf fa (wipeE ρ vs) ds).map .l else none := rfl
@[simp] theorem v_lcF0 {tg : FG} : lcF tg tf fa ρ [] = some [] := rfl
@[simp] theorem v_lcF {tg : FG} : lcF tg tf fa ρ (d :: l) = (tg d).bind fun ws => (tf (putE ρ ws)).bind fun b => if b = true then (fa (putE ρ ws)).bind fun y => (lcF tg tf fa ρ l).bind fun ys => some (y :: ys) else lcF tg tf fa ρ l := rfl
@[simp] theorem v_fSeq : fSeq fa ρ = (fa ρ).bind D.seq? := rfl
@[simp] theorem v_rng1 : fRng1 fl ρ = (fl ρ).bind fun xs => match xs with
  | [.int n] => @ite _ (-(2 ^ 62) ≤ n ∧ n < 2 ^ 62) (Classical.propDecidable _) (some (rngD 0 n.toNat)) none
  | _ => none := rfl
@[simp] theorem v_rng2 : fRng2 fl ρ = (fl ρ).bind fun xs => match xs with
  | [.int m, .int n] => @ite _ (-(2 ^ 62) ≤ m ∧ m < 2 ^ 62 ∧ -(2 ^ 62) ≤ n ∧ n < 2 ^ 62) (Classical.propDecidable _) (some (rngD m (n - m).toNat)) none
  | _ => none := rfl
@[simp] theorem v_enum : fEnum fl ρ = (fl ρ).bind fun xs => match xs with
  | [d] => d.seq?.map (enumD 0)
  | _ => none := rfl
@[simp] theorem v_zip : fZip fl ρ = (fl ρ).bind fun xs => match xs with
  | [c, d] => match c.tq?, d.tq? with
    | some xs, some ys => some (zipD xs ys)
    | _, _ => c.lq?.bind fun xs => d.lq?.bind fun ys => some (zipD xs ys)
  | _ => none := rfl
@[simp] theorem v_sq1 : (D.tup l).seq? = some l := rfl
@[simp] theorem v_sq2 : (D.lst l).seq? = some l := rfl
@[simp] theorem v_sq3 : (D.sl l).seq? = some l := rfl
@[simp] theorem v_sq4 : (D.kt l).seq? = some l := rfl
@[simp] theorem v_tq1 : (D.tup l).tq? = some l := rfl
@[simp] theorem v_tq2 : (D.kt l).tq? = some l := rfl
@[simp] theorem v_zip0 : zipD [] l = [] := rfl
@[simp] theorem v_zip1 : zipD (a :: l) [] = [] := rfl
@[simp] theorem v_zip2 : zipD (a :: l) (b :: xs) = .tup [a, b] :: zipD l xs := rfl
@[simp] theorem v_g1 {f : D → Option D} : g1 f [d] = f d := rfl
@[simp] theorem v_gN1 {f : D → Option O} : gN1 f [d] = f d := rfl
@[simp] theorem v_sl {fo fp : E → Option (Option Int)} : eSl fa fo fp ρ = (fa ρ).bind fun d => (fo ρ).bind fun lo => (fp ρ).bind fun hi => dSl d lo hi := rfl
@[simp] theorem v_noP : fNoP ρ = some none := rfl
@[simp] theorem v_part : fPart fa ρ = (fa ρ).bind fun d => d.i?.map some := rfl
@[simp] theorem v_slT {lo hi : Option Int} : dSl (.tup l) lo hi = some (.tup (cutD l lo hi)) := rfl
@[simp] theorem v_slL {lo hi : Option Int} : dSl (.lst l) lo hi = some (.lst (cutD l lo hi)) := rfl
theorem sIx0 {N : Nat} {z : Nat} : HT.sIx N z none = z := rfl
theorem cut_from (k : Nat) : cutD l (some (k : Int)) none = l.drop k := by
  unfold cutD
  rw [HT.sIx_nat, HT.sIx_none]
  by_cases h : k ≤ l.length
  · rw [Nat.min_eq_left h, List.take_of_length_le (by simp)]
  · rw [Nat.min_eq_right (by omega), List.drop_eq_nil_of_le (by omega), List.drop_eq_nil_of_le (by omega)]
    simp
theorem cut_to (k : Nat) : cutD l none (some (k : Int)) = l.take k := by
  unfold cutD
  rw [HT.sIx_nat, HT.sIx_none, List.drop_zero, Nat.sub_zero]
  by_cases h : k ≤ l.length
  · rw [Nat.min_eq_left h]
  · rw [Nat.min_eq_right (by omega), List.take_of_length_le (by omega), List.take_of_length_le (by omega)]
@[simp] theorem v_cut1 : cutD l (some 1) none = l.drop 1 := cut_from 1
theorem cut_last : cutD l none (some (-1)) = l.dropLast := by
  unfold cutD
  rw [HT.sIx_none, List.drop_zero, Nat.sub_zero, List.dropLast_eq_take]
  have e : HT.sIx l.length l.length (some (-1)) = l.length - 1 := by
    show (if (-1 : Int) < 0 then ((-1 : Int) + (l.length : Int)).toNat else min (-1 : Int).toNat l.length) = _
    rw [if_pos (by decide)]
    omega
  rw [e]
@[simp] theorem v_cut2 : cutD l none (some (-1)) = l.dropLast := cut_last
@[simp] theorem v_rev : dRev (.lst l) = some (.l l.reverse) := rfl
@[simp] theorem v_neg : dNeg (.int n) = some (.int (-n)) := rfl
@[simp] theorem v_add : dAdd (.int n) (.int m) = some (.int (n + m)) := rfl
@[simp] theorem v_addT : dAdd (.tup l) (.tup xs) = if l.length + xs.length ≤ 100000 then some (.tup (l ++ xs)) else none := rfl
@[simp] theorem v_gI {f : Int → Int → D} {C : Int → Int → Bool} : gI f C (.int n) (.int m) = if C n m = true then some (f n m) else none := rfl
@[simp] theorem v_mul : dMul (.int n) (.int m) = dMulI (.int n) (.int m) := rfl
@[simp] theorem v_mulT : dMul (.tup l) (.int n) = if l ≠ [] ∧ 2 ≤ n ∧ n ≤ 1000 ∧ l.length ≤ 1000 then some (.tup (List.replicate n.toNat l).flatten) else none := rfl
@[simp] theorem v_cat : dCat (.lst l) (.lst xs) = if l.length + xs.length ≤ 100000 then some (.l (l ++ xs)) else none := rfl
@[simp] theorem v_ix1 : dIx (.tup l) (.int n) = atI l n := rfl
@[simp] theorem v_ix2 : dIx (.lst l) (.int n) = atI l n := rfl
@[simp] theorem v_ix3 : dIx (.sl l) (.int n) = atI l n := rfl
@[simp] theorem v_ix4 : dIx (.kt l) (.int n) = atI l n := rfl
@[simp] theorem v_ixK {kvs : List (Key × D)} : dIx (.dK kvs) (.str k) = valD kvs (.inr k) := rfl
theorem atN {α : Type} {xs : List α} {j : Nat} (hj : j < xs.length) : atI xs (j : Int) = xs[j]? := by
  unfold atI ixN
  rw [if_pos (by omega), if_pos (by omega), Option.bind_some, Int.toNat_natCast]
theorem atM {xs : List D} (h : 0 < xs.length) : atI xs (-1) = xs[xs.length - 1]? := by
  unfold atI ixN
  rw [if_neg (by decide), if_pos (by omega), Option.bind_some, show ((-1 : Int) + (xs.length : Int)).toNat = xs.length - 1 by omega]
@[simp] theorem v_at0 : atI (a :: l) 0 = some a := (atN (j := 0) (xs := a :: l) (by simp)).trans rfl
@[simp] theorem v_at1 : atI (a :: b :: l) 1 = some b := (atN (j := 1) (xs := a :: b :: l) (by simp)).trans rfl
@[simp] theorem v_at2 : atI (a :: b :: c :: l) 2 = some c := (atN (j := 2) (xs := a :: b :: c :: l) (by simp)).trans rfl
@[simp] theorem v_at3 : atI (a :: b :: c :: d :: l) 3 = some d := (atN (j := 3) (xs := a :: b :: c :: d :: l) (by simp)).trans rfl
@[simp] theorem v_len1 : dLen (.tup l) = some (.int l.length) := rfl
@[simp] theorem v_len2 : dLen (.lst l) = some (.int l.length) := rfl
@[simp] theorem v_len3 : dLen (.sl l) = some (.int l.length) := rfl
@[simp] theorem v_len4 : dLen (.kt l) = some (.int l.length) := rfl
@[simp] theorem v_len5 {kvs : List (Key × D)} : dLen (.dK kvs) = some (.int kvs.length) := rfl
@[simp] theorem v_ty1 : dType .non = some (.ty "NoneType") := rfl
@[simp] theorem v_ty2 {x : Bool} : dType (.bl x) = some (.ty "bool") := rfl
@[simp] theorem v_ty3 : dType (.int n) = some (.ty "int") := rfl
@[simp] theorem v_ty4 : dType (.str k) = some (.ty "str") := rfl
@[simp] theorem v_ty5 : dType (.tup l) = some (.ty "tuple") := rfl
@[simp] theorem v_ty6 : dType (.lst l) = some (.ty "list") := rfl
@[simp] theorem v_ty7 {kvs : List (Key × D)} : dType (.dK kvs) = some (.ty "dict") := rfl
@[simp] theorem v_ty8 : dType (.kt l) = some (.ty "tuple") := rfl
@[simp] theorem v_is1 {x y : Bool} : dIs (.bl x) (.bl y) = some (.bl (decide (x = y))) := rfl
@[simp] theorem v_is2 {x y : String} : dIs (.ty x) (.ty y) = some (.bl (decide (x = y))) := rfl
@[simp] theorem v_is3 : dIs d .non = some (.bl d.isNon) := by cases d <;> rfl
@[simp] theorem v_isn1 {x y : Bool} : dIsn (.bl x) (.bl y) = some (.bl (!decide (x = y))) := rfl
@[simp] theorem v_isn2 {x y : String} : dIsn (.ty x) (.ty y) = some (.bl (!decide (x = y))) := rfl
@[simp] theorem v_isn3 : dIsn d .non = some (.bl (!d.isNon)) := by cases d <;> rfl
@[simp] theorem v_nn1 : D.non.isNon = true := rfl
@[simp] theorem v_nn2 {x : Bool} : (D.bl x).isNon = false := rfl
@[simp] theorem v_nn3 : (D.int n).isNon = false := rfl
@[simp] theorem v_nn4 : (D.str k).isNon = false := rfl
@[simp] theorem v_nn5 : (D.tup l).isNon = false := rfl
@[simp] theorem v_nn6 : (D.lst l).isNon = false := rfl
@[simp] theorem v_nn7 {kvs : List (Key × D)} : (D.dK kvs).isNon = false := rfl
@[simp] theorem v_eqI : dEq (.int n) (.int m) = some (.bl (decide (n = m))) := by
  show some (D.bl (decide (V.int n = V.int m))) = _
  rw [show (decide (V.int n = V.int m)) = decide (n = m) from decide_eq_decide.mpr (by simp)]
@[simp] theorem v_eqS : dEq (.str k) (.str w) = some (.bl (decide (k = w))) := by
  show some (D.bl (decide (V.str k = V.str w))) = _
  rw [show (decide (V.str k = V.str w)) = decide (k = w) from decide_eq_decide.mpr (by simp)]
@[simp] theorem v_neI : dNeP (.int n) (.int m) = some (.bl (!decide (n = m))) := by
  show some (D.bl (!decide (V.int n = V.int m))) = _
  rw [show (decide (V.int n = V.int m)) = decide (n = m) from decide_eq_decide.mpr (by simp)]
@[simp] theorem v_neS : dNeP (.str k) (.str w) = some (.bl (!decide (k = w))) := by
  show some (D.bl (!decide (V.str k = V.str w))) = _
  rw [show (decide (V.str k = V.str w)) = decide (k = w) from decide_eq_decide.mpr (by simp)]
@[simp] theorem v_fl1 : D.non.flat? = some .non := rfl
@[simp] theorem v_fl2 {x : Bool} : (D.bl x).flat? = some (.bl x) := rfl
@[simp] theorem v_fl3 : (D.int n).flat? = some (.int n) := rfl
@[simp] theorem v_fl4 : (D.str k).flat? = some (.str k) := rfl
theorem flats_ints : ∀ ns : List Int, flats (ns.map D.int) = some (ns.map V.int)
  | [] => rfl
  | n :: ns => by simp [flats, flats_ints ns]
theorem inV_ints (n : Int) : ∀ ns : List Int, inV (.int n) (ns.map V.int) = ns.contains n
  | [] => rfl
  | m :: ns => by
    have := inV_ints n ns
    unfold inV at this ⊢
    rw [List.map_cons, List.any_cons, this, List.contains_cons]
    congr 1
    show (m == n) = (n == m)
    exact Bool.beq_comm
@[simp] theorem v_inI {ns : List Int} : dIn (.int n) (.lst (ns.map D.int)) = some (.bl (ns.contains n)) := by
  unfold dIn bIn
  simp [flats_ints, inV_ints]
@[simp] theorem v_inS {a b : Str} : dIn (.str k) (.tup [.str a, .str b]) = some (.bl (decide (a = k) || decide (b = k))) := by
  unfold dIn bIn
  simp only [v_sq1, v_fl4, Option.bind_some, flats, Option.map_some]
  show some (D.bl ((a == k) || ((b == k) || false))) = _
  rw [Bool.or_false]
  congr 3 <;> exact Bool.beq_eq_decide_eq ..
theorem bools_bl : ∀ bs : List Bool, bools (bs.map D.bl) = some bs
  | [] => rfl
  | b :: bs => by simp [bools, bools_bl bs]
@[simp] theorem v_all {bs : List Bool} : dAll (.lst (bs.map D.bl)) = some (.bl (bs.all id)) := by
  show (bools (bs.map D.bl)).map (fun bs => D.bl (bs.all id)) = _
  rw [bools_bl]
  rfl
@[simp] theorem v_tuple1 : dTuple (.lst l) = some (.tup l) := rfl
@[simp] theorem v_tuple2 : dTuple (.tup l) = some (.tup l) := rfl
@[simp] theorem v_abs : dAbs (.int n) = some (.int (if n < 0 then -n else n)) := rfl
@[simp] theorem v_int : dInt (.int n) = some (.int n) := rfl
@[simp] theorem v_list : dList (.tup l) = some (.l l) := rfl
@[simp] theorem v_pNil : pNil ρ = some [] := rfl
@[simp] theorem v_pCons {fp : E → Option (List (Key × D))} : pCons k fa fp ρ = (fa ρ).bind fun v => (fp ρ).bind fun r => some ((.inr k, v) :: r) := rfl
@[simp] theorem v_disp {fp : E → Option (List (Key × D))} : fDisp fp ρ = (fp ρ).bind fun ps => if ps.length ≤ 15 then some (.k (mergeD [] ps)) else none := rfl
theorem v_def {N n : Nat} {ds : List D} : defM N n g ds = if ds.length = n then (g (ds.map Slot.sh ++ List.replicate (N - n) Slot.no)).bind fun o => match o with
  | .rt d => some d
  | .nx _ => some .non
  | _ => none else none := rfl
end
/-! turns -/
theorem forF_inv {tg : FG} {body : FS} (Iv : Nat → SEnv → Prop) : ∀ (ds : List D) (i : Nat) (ρ : SEnv), Iv i ρ → (∀ j ρ d, ds[j]? = some d → Iv (i + j) ρ → ∃ ws ρ', tg d = some ws ∧ body (putR ρ ws) = some (.nx ρ') ∧ Iv (i + j + 1) ρ') →
    ∃ ρ', forF tg body ds ρ = some (.nx ρ') ∧ Iv (i + ds.length) ρ'
  | [], i, ρ, h, _ => ⟨ρ, rfl, h⟩
  | d :: ds, i, ρ, h, hs => by
    obtain ⟨ws, ρ1, e1, e2, h1⟩ := hs 0 ρ d (by simp) h
    obtain ⟨ρ2, e3, h2⟩ := forF_inv Iv ds (i + 1) ρ1 h1 fun j ρ d hd hI => by
      have := hs (j + 1) ρ d (by simpa using hd) (by rw [show i + (j + 1) = i + 1 + j by omega]; exact hI)
      rw [show i + (j + 1) + 1 = i + 1 + j + 1 by omega] at this
      exact this
    refine ⟨ρ2, ?_, by rw [List.length_cons, show i + (ds.length + 1) = i + 1 + ds.length by omega]; exact h2⟩
    show (tg d).bind _ = _
    rw [e1]
    show (body (putR ρ ws)).bind _ = _
    rw [e2]
    exact e3
theorem lcF_eq {tg : FG} {fc : E → Option Bool} {fe : FE} {ρ : E} (p : D → Bool) (h : D → D) : ∀ (ds : List D), (∀ d ∈ ds, ∃ ws, tg d = some ws ∧ fc (putE ρ ws) = some (p d) ∧ (p d = true → fe (putE ρ ws) = some (h d))) → lcF tg fc fe ρ ds = some ((ds.filter p).map h)
  | [], _ => rfl
  | d :: ds, hs => by
    obtain ⟨ws, e1, e2, e3⟩ := hs d (by simp)
    have ih := lcF_eq p h ds fun d hd => hs d (by simp [hd])
    unfold lcF
    rw [e1, Option.bind_some, e2, Option.bind_some, ih]
    cases hp : p d with
    | true =>
      rw [if_pos rfl, e3 hp, List.filter_cons_of_pos hp]
      rfl
    | false =>
      rw [if_neg Bool.false_ne_true, List.filter_cons_of_neg (by rw [hp]; exact Bool.false_ne_true)]
theorem lcF_map {tg : FG} {fe : FE} {ρ : E} (h : D → D) (ds : List D) (hs : ∀ d ∈ ds, ∃ ws, tg d = some ws ∧ fe (putE ρ ws) = some (h d)) : lcF tg fYes fe ρ ds = some (ds.map h) := by
  rw [lcF_eq (fun _ => true) h ds fun d hd => by
    obtain ⟨ws, e1, e2⟩ := hs d hd
    exact ⟨ws, e1, rfl, fun _ => e2⟩]
  have e : List.filter (fun _ : D => true) ds = ds := by simp
  exact congrArg (fun l => some (List.map h l)) e
theorem rngD_len (lo : Int) (n : Nat) : (rngD lo n).length = n := by simp [rngD]
theorem rngD_get {lo : Int} {n j : Nat} {d : D} (h : (rngD lo n)[j]? = some d) : j < n ∧ d = .int (lo + j) := by
  unfold rngD at h
  rw [List.getElem?_map] at h
  obtain ⟨i, h1, rfl⟩ := Option.map_eq_some_iff.mp h
  obtain ⟨h2, h3⟩ := List.getElem?_eq_some_iff.mp h1
  simp at h2 h3
  subst h3
  exact ⟨h2, rfl⟩
end Mi

/-! Mi13: own exceptions without fields; defs that may raise; what catches them. -/
namespace Mi
open PySem PySem.Spec PyProof.Rows L2
section
variable {X : Cx} {pins : List (Addr × Obj)} {σ : L2.St}
theorem bare_end {H : Hp} {hp hp2 h2 : Heap} {g1 g2 : Array GenState} {d1 d2 : Drawn} {t1 t2 : Nat} {os1 os2 : OsState} {a C : Addr} (I : Inv X pins σ H ⟨hp, g1, d1, t1, os1⟩) (ha : hp.objs.size ≤ a)
    (k : ∀ b o, hp.get? b = some o → hp2.get? b = some o) (un : Un (frs X.stack) [] (upd H a (exo a C none)) (upd H a (exo a C none)) hp2 h2) (hok : HOk X.prog X.w (upd H a (exo a C none)) h2) (ho : os2 = os1) (hb : AllBare g2) :
    ∃ (t0 : Addr) (G : Heap), Inv X pins σ H ⟨G, g2, d2, t2, os2⟩ ∧ (∀ b o, G.get? b = some o → h2.get? b = some o) ∧ G.get? a = none ∧
      h2.get? a = some ({ cls := .ref C, dict := none, data := .fields #[.ref t0, .none, .none, .none, .bool false, .none] } : Obj) ∧ H a = none := by
  obtain ⟨t0, he⟩ := exo_at hok upd_same
  have hn : H a = none := I.hok.fresh ha
  obtain ⟨G, in_, out⟩ := restrict h2 fun b => decide (b ≠ a)
  have gk : ∀ b, b ≠ a → G.get? b = h2.get? b := fun b hb => in_ b (decide_eq_true hb)
  have ge : G.get? a = none := out a (by simp)
  have na : ∀ b o, hp.get? b = some o → b ≠ a := fun b o z => Nat.ne_of_lt (Nat.lt_of_lt_of_le (Heap.lt_size z) ha)
  have up : ∀ b, b ≠ a → upd H a (exo a C none) b = H b := fun b hb => upd_ne hb
  have U : Un (frs X.stack) [] H H hp G :=
    { keep := fun b o z n f c => (gk b (na b o z)).trans (un.keep b o (k b o z) ((up b (na b o z)).trans n) f c)
      slot := fun b o z n f c => by
        obtain ⟨sl, q⟩ := un.slot b o (k b o z) ((up b (na b o z)).trans n) f c
        exact ⟨sl, (gk b (na b o z)).trans q⟩
      free := fun b o z n c => n
      there := fun b o z c => by
        have q := un.there b o (k b o z) c
        rw [← gk b (na b o z)] at q
        exact q
      tups := fun b xs z => z
      frzs := fun b o v z => z
      tbls := fun b ps z => ⟨#[], by simpa using z⟩ }
  have hokG : HOk X.prog X.w H G := fun b o z => by
    have hba : b ≠ a := ne_of_none z hn
    have n2 : ∀ c, H c = some (.own b) → c ≠ a := fun c hc => ne_of_none hc hn
    refine (hok b o ((up b hba).trans z)).stay (fun c v hc y => ?_) (fun c hc => ?_) (fun c xs hc => ?_)
    · have hca : c ≠ a := by
        rcases hc with hc | hc
        · rw [hc]; exact hba
        · exact at_ne upd_same hc exo_own
      exact (gk c hca).trans y
    · have := at_ne upd_same hc exo_own
      exact (up c this).symm.trans hc
    · have := at_ne upd_same hc exo_tup
      exact (up c this).symm.trans hc
  exact ⟨t0, G, I.call' (ch := []) ho U hokG hb (fun b z => absurd z (by simp)), fun b o z => by
    by_cases hba : b = a
    · rw [hba, ge] at z; cases z
    · exact (gk b hba).symm.trans z, ge, he, hn⟩
end
/-- __init__ of such a class: nothing is left behind -/
def spI (K : PySem.W.Frag) : Sp := fun vs H Q _ => ∃ a C : Addr, vs = [.ref a] ∧ OexC K C ∧ H a = some (exo a C none) ∧ Q .non H
section
variable {X : Cx} {x : Str} {p pos : Pos}
theorem pmk_bare {C fI : Addr} {k : Nat} {fd : FuncData} (T : OexC X.K C) (iC : PySem.W.findIn X.K (.ref C) "__init__" = some (some (.ref fI))) (tI : PySem.W.typeIn X.K (.ref fI) = some (.type "function"))
    (F1 : FnOk X.prog X.w X.K X.mg X.base CX0 k fI fd ["self"] (spI X.K)) (hr : Room (k + 1) X.A) (hb : Binds X.K fd ["self"] []) (hg : Gl X x) (hm : X.mg x = some (.ref C)) (hdb : (x == ("__debug__" : Str)) = false := by decide) :
    PMk X (.Call (.Name x p) [] [] pos) (fun _ H Q => Q (.ref C) none H) := by
  intro pins s σ H Q I h
  obtain ⟨nm, q, N, bs, bm, sn, sub, ab, col, dd, k0, k1, k2, k3, k5, hC, hbm⟩ := T.cls
  refine wpAny_Call_Name_kw (ld_glob I hg hm (PySem.W.callWith_K0 I.kIn T.kC ?_) hdb)
  obtain ⟨hp, g, dr, tk, os⟩ := s
  have hsz : hp.objs.size ≤ hp.objs.size + 1 := Nat.le_succ _
  have keep : ∀ b o, hp.get? b = some o → ((hp.push (PySem.W.kdv_tup [])).push (PySem.HandSPX.excO C hp.objs.size)).get? b = some o := fun b o e => Heap.get?_push_of_some _ (Heap.get?_push_of_some _ e)
  have hget : ((hp.push (PySem.W.kdv_tup [])).push (PySem.HandSPX.excO C hp.objs.size)).get? (hp.objs.size + 1) = some (PySem.HandSPX.excO C hp.objs.size) := by heap_get
  have J : Inv X pins σ (upd H (hp.objs.size + 1) (exo (hp.objs.size + 1) C none)) ⟨(hp.push (PySem.W.kdv_tup [])).push (PySem.HandSPX.excO C hp.objs.size), g, dr, tk, os⟩ := I.laid keep hsz (exo_ok hget)
  have hbb := hb _ [Value.ref (hp.objs.size + 1)] J.kIn rfl
  have hsp : spI X.K [V.ref (hp.objs.size + 1)] (upd H (hp.objs.size + 1) (exo (hp.objs.size + 1) C none)) (fun v H2 => v = .non ∧ H2 = upd H (hp.objs.size + 1) (exo (hp.objs.size + 1) C none)) (fun _ _ _ => False) := ⟨_, C, rfl, T, upd_same, rfl, rfl⟩
  have run := F1.run _ X.stack _ _ ⟨[Value.ref (hp.objs.size + 1)], []⟩ [Value.ref (hp.objs.size + 1)] _ _ (fun _ _ _ => False) (hr.make C [] []) (J.env0.make C [] []) hbb (show Vals [V.ref (hp.objs.size + 1)] [Value.ref (hp.objs.size + 1)] from .cons rfl .nil) hsp
  refine wpAny_call (PySem.HandSPX.call_own F.excBase_ValueError (fun Y => PySem.HandSPX.refsVE_contains Y bm hbm) (I.kIn _ _ hC) (PySem.W.looks_findIn I.kIn iC) (fun self => PySem.W.bind_fn I.kIn self tI) (Nat.zero_le _) (codeAny_mono run fun r s' hq => ?_))
  cases r with
  | error er => exact False.elim hq
  | ok fl =>
    cases fl with
    | ret u =>
      obtain ⟨v, H2, os2, bare2, un2, hok2, rv, ev, eH⟩ := hq
      subst ev eH
      obtain ⟨h2, g2, d2, t2, os'⟩ := s'
      obtain ⟨t0, G, J2, kG, ge, hoe, na⟩ := bare_end (d2 := d2) (t2 := t2) I hsz keep un2 hok2 os2 bare2
      exact ⟨rv, _, _, _, ⟨G, g2, d2, t2, os'⟩, _, .ref C, none, rfl, J2, kG, ge, hoe, ⟨rfl, rfl⟩, rfl, rfl, na, rfl, bare2, raises_own T.exC T.tyC, h⟩
    | next => exact False.elim hq
    | brk => exact False.elim hq
    | cont => exact False.elim hq
end
/-! defs that may raise -/
def spX (K : PySem.W.Frag) (mg : Str → Option Value) (n : Nat) (mx : List D → Option (D ⊕ Str)) : Sp := fun vs H Q E => ∃ F ds r, Ex F H ∧ Reps K F ds vs ∧ vs.length = n ∧ mx ds = some r ∧
  (∀ d, r = .inl d → ∀ v F' H', Gr F H F' H' → Rep K F' d v → Q v H') ∧ ∀ x, r = .inr x → ∀ F' H' C, Gr F H F' H' → mg x = some (.ref C) → E (.ref C) none H'
def defX (N n : Nat) (g : FS) : List D → Option (D ⊕ Str) := fun ds => if ds.length = n then (g (ds.map Slot.sh ++ List.replicate (N - n) Slot.no)).bind fun o => match o with
  | .rt d => some (.inl d)
  | .nx _ => some (.inl .non)
  | .ex x => some (.inr x)
  | _ => none else none
section
variable {P : Program} {w : World} {K : PySem.W.Frag} {mg : Str → Option Value} {base : Heap}
structure FxX (P : Program) (w : World) (K : PySem.W.Frag) (mg : Str → Option Value) (base : Heap) (k : Nat) (x : Str) (n : Nat) (mx : List D → Option (D ⊕ Str)) : Prop where
  ok : ∃ f fd ps, FnOk P w K mg base (L2.CX P w) k f fd ps (spX K mg n mx) ∧ mg x = some (.ref f) ∧ PySem.W.keepIn K (.ref f) = true ∧ Binds K fd ps []
  hm : ∀ ds d, mx ds = some d → ds.length = n
theorem fxx_mkL {x : Str} {st : Stmt} {f : Addr} {fd : FuncData} {N ps : List Str} {k n m : Nat} {g : FS} (Fn : Fun K x x st f fd) (S : FnScope N ps (defScope st)) (hmg : mg x = some (.ref f)) (hb : Binds K fd ps []) (hpl : ps.length ≤ N.length) (hn : ps.length = n) (hm : N.length = m)
    (body : ∀ (cdv : Value) (A : Around) (outer : List Env) (s : Shared) (H : Hp) (W : XK), Room k (A.deeper (envOfC x (defScope st) s.heap.objs.size f cdv)) →
      SSs (cxOf (L2.CX P w) P w K mg base N x (defScope st) f cdv A outer s H W) W (defBody st) g) : FxX P w K mg base (k + 1) x n (defX m n g) := by
  subst hn hm
  refine ⟨⟨f, fd, ps, Fn.okX S (fun vs H Q W h => ?_) (fun cdv A outer s H vs Q W hr h => ?_), hmg, Fn.kp, hb⟩, fun ds d h => ?_⟩
  · obtain ⟨F, ds, r, _, _, hl, _⟩ := h
    exact hl
  · obtain ⟨F, ds, r, e, rr, hl, hd, q, qx⟩ := h
    obtain ⟨t, hp, hs⟩ := body cdv A outer s H W hr
    refine ⟨t, hp, ?_⟩
    have hdl : ds.length = ps.length := by rw [rr.len, hl]
    unfold defX at hd
    rw [if_pos hdl] at hd
    obtain ⟨o, ho, hd⟩ := Option.bind_eq_some_iff.mp hd
    rw [← hdl] at ho
    refine hs F H F H _ _ (rs_start e rr (by omega)) o ho _ ?_
    cases o with
    | nx ρ =>
      cases hd
      exact fun F1 H1 σ r1 _ => q _ rfl _ F1 H1 r1.gr (rep_non.mpr rfl)
    | rt d' =>
      cases hd
      exact fun F1 H1 v g1 r1 => q _ rfl v F1 H1 g1 r1
    | bk ρ => cases hd
    | ct ρ => cases hd
    | ex c =>
      cases hd
      exact fun F1 H1 C g1 hC => qx _ rfl F1 H1 C g1 hC
  · unfold defX at h
    split at h
    · assumption
    · cases h
end
def sRaise (x : Str) : FS := fun _ => some (.ex x)
def sNever : FS := fun _ => none
section
variable {X : Cx} {W : XK} {x : Str} {p pos pos' : Pos}
theorem sp_raise {C fI : Addr} {k : Nat} {fd : FuncData} (hc : X.calm = true) (tk : Takes X (fun cls d _ H => W cls d H)) (T : OexC X.K C) (iC : PySem.W.findIn X.K (.ref C) "__init__" = some (some (.ref fI))) (tI : PySem.W.typeIn X.K (.ref fI) = some (.type "function"))
    (F1 : FnOk X.prog X.w X.K X.mg X.base CX0 k fI fd ["self"] (spI X.K)) (hr : Room (k + 1) X.A) (hb : Binds X.K fd ["self"] []) (hg : Gl X x) (hm : X.mg x = some (.ref C)) (hdb : (x == ("__debug__" : Str)) = false := by decide) :
    SS X W (.Raise (some (.Call (.Name x p) [] [] pos)) none pos') (sRaise x) :=
  ⟨_, ps_raise hc tk (pmk_bare T iC tI F1 hr hb hg hm hdb), fun F0 H0 F H σ ρ r o ho Dn q => by
    cases ho
    exact q F H C r.gr hm⟩
theorem sp_never {st : Stmt} : SS X W st sNever := ⟨_, ps_never, fun _ _ _ _ _ _ _ _ ho => by cases ho⟩
end
/-! __init__ that calls ValueError's -/
theorem init_fn {P : Program} {w : World} {K : PySem.W.Frag} {mg : Str → Option Value} {base : Heap} {qual : Str} {st : Stmt} {f : Addr} {fd : FuncData} {p1 p2 p3 p4 p5 : Pos} (Fn : Fun K "__init__" qual st f fd) (S : FnScope ["self"] ["self"] (defScope st))
    (hbody : defBody st = [.Expr (.Call (.Attribute (.Name "ValueError" p1) "__init__" p2) [.Name "self" p3] [] p4) p5]) (hm : mg "ValueError" = none) (vV : PySem.W.findCls K (.type "ValueError") (.type "type") "__init__" = some (.val (.builtin "ValueError.__init__")))
    (rule : ∀ (cdv : Value) (A : Around) (outer : List Env) (s : Shared) (H : Hp) (W : XK), PE (cxOf CX0 P w K mg base ["self"] qual (defScope st) f cdv A outer s H W).nox (.Call (.Attribute (.Name "ValueError" p1) "__init__" p2) [.Name "self" p3] [] p4) (tVeI K (tCons (tVar 0) tNil)))
    (sw : ∀ (cdv : Value) (A : Around) (outer : List Env) (s : Shared) (H : Hp) (W : XK), swapsWith (.Call (.Attribute (.Name "ValueError" p1) "__init__" p2) [.Name "self" p3] [] p4) none p5.line (cxOf CX0 P w K mg base ["self"] qual (defScope st) f cdv A outer s H W).nox.env = pure false) :
    FnOk P w K mg base CX0 1 f fd ["self"] (spI K) := by
  refine Fn.ok S (fun vs H Q W h => ?_) (fun cdv A outer s H vs Q W hr h => ?_)
  · obtain ⟨a, C, rfl, _⟩ := h
    rfl
  · obtain ⟨a, C, rfl, T, e, q⟩ := h
    rw [hbody]
    exact ⟨_, pss_one (ps_expr (rule cdv A outer s H W) (sw cdv A outer s H W)), ⟨_, rfl, a, C, [], rfl, Nat.zero_le _, T, e, q⟩⟩
/-! what catches them -/
structure Caught (K : PySem.W.Frag) (mg : Str → Option Value) (yes : Str → Option Bool) (c y : Addr) : Prop where
  is_ : ∀ x b C, yes x = some b → mg x = some (.ref C) → PySem.W.exmOne K (.ref C) (.ref c) = some true ∧ ExcC K C ∧ PySem.W.kitOne K (.ref C) (.ref y) = some b
def sTry (i : Nat) (fl : E → Option (List D)) (mx : List D → Option (D ⊕ Str)) (yes : Str → Option Bool) : FS := fun ρ => if i < ρ.length then (fl (hid ρ)).bind fun ds => (mx ds).bind fun r => match r with
  | .inl _ => some (.nx ρ)
  | .inr x => (yes x).map fun b => .rt (.bl b) else none
def tSuite (K : PySem.W.Frag) (i : Nat) (y : Addr) : Addr → Value → Option Addr → TS := fun a cls d Dn σ H => ∃ C, cls = .ref C ∧ d = none ∧ ExcC K C ∧ tRet (tCB (rIsE K C a) (tCons (tVar i) (tCons (tC (.ref y)) tNil))) Dn σ H
theorem sp_try {X : Cx} {W : XK} {P : Program} {w : World} {K : PySem.W.Frag} {mg : Str → Option Value} {base : Heap} {f n cn yn : Str} {e : Expr} {es : List Expr} {k m i : Nat} {mx : List D → Option (D ⊕ Str)} {yes : Str → Option Bool} {t : TA} {fl : E → Option (List D)} {c y : Addr} {p cp ep np vp yp ip icp rp pos' pos : Pos}
    (G : FxX P w K mg base k f m mx) (hr : Room k X.A) (hg : Gl X f) (ct : Caught K mg yes c y) (ha : ∀ pn xe, SA (X.tr pn xe) (e :: es) t fl)
    (hs : X.stack = X.env :: X.outer) (hf : X.env.frame = some X.env.locals) (hN : X.N.Nodup) (hi : X.N[i]? = some n) (hln : X.env.kindOf n = some .local) (hc : Names X cn (.ref c)) (hgy : Gl X yn) (hmy : X.mg yn = some (.ref y)) (hgi : Gl X "isinstance") (hmi : X.mg "isinstance" = none)
    (hvi : bootBuiltins "isinstance" = some (.builtin "isinstance"))
    (hsw : swapsWith (.Call (.Name f p) (e :: es) [] cp) none ep.line X.env = pure false := by rfl)
    (hst : ∀ pn xe, starEach (e :: es) (X.tr pn xe).env = (false, eval e (X.tr pn xe).env) :: starEach es (X.tr pn xe).env := by intro _ _; rfl)
    (hpl : ∀ pn xe, (backTo cp (starEach es (X.tr pn xe).env)).any (·.1) = false := by intro _ _; rfl)
    (hfd : (f == ("__debug__" : Str)) = false := by decide) (hyd : (yn == ("__debug__" : Str)) = false := by decide) (hnd : (n == ("__debug__" : Str)) = false := by decide) (hnc : (n == ("__classdict__" : Str)) = false := by decide)
    (hvis : Vis X.env.scope n)
    (hst2 : ∀ a pn, starEach [.Name n vp, .Name yn yp] (X.suite a pn).env = (false, eval (.Name n vp) (X.suite a pn).env) :: starEach [.Name yn yp] (X.suite a pn).env := by intro _ _; rfl)
    (hst3 : ∀ a pn, starEach [.Name yn yp] (X.suite a pn).env = (false, eval (.Name yn yp) (X.suite a pn).env) :: starEach [] (X.suite a pn).env := by intro _ _; rfl)
    (hpl2 : ∀ a pn, (backTo icp (starEach [.Name yn yp] (X.suite a pn).env)).any (·.1) = false := by intro _ _; rfl)
    (hP : X.prog = P := by rfl) (hw : X.w = w := by rfl) (hK : X.K = K := by rfl) (hmg : X.mg = mg := by rfl) (hb : X.base = base := by rfl) :
    SS X W (.Try [.Expr (.Call (.Name f p) (e :: es) [] cp) ep] [.ExceptHandler (some (.Name cn np)) (some n) [.Return (some (.Call (.Name "isinstance" ip) [.Name n vp, .Name yn yp] [] icp)) rp] pos'] [] [] pos) (sTry i fl mx yes) := by
  subst hP hw hK hmg hb
  obtain ⟨⟨fa, fd, ps, F1, mgf, kp, bn⟩, hm⟩ := G
  refine ⟨_, ps_try_as (i := i) (Wout := fun _ _ _ _ => False) (ts := tSuite X.K i y) (tb := fun W0 => tDrop (tCallS (spX X.K X.mg m mx) (WE W0) t)) hs hf hN hi hln hc takes0 (fun W0 pn xe tk _ => ?_) (fun a oe cls d pn hz hf2 => ?_), ?_⟩
  · exact pss_one (ps_expr (pe_callS F1 hr hg mgf kp bn (fun σ => passAt tk σ) (ha pn xe).pe hfd (hst pn xe) (hpl pn xe)) hsw)
  · refine ⟨fun pins s σ H D I h => ?_⟩
    obtain ⟨C, rfl, rfl, hC, h⟩ := h
    exact (pss_one (ps_ret (pe_callB (call_isE hC hz hf2) hgi hmi hvi (pa_cons (pe_var hi hvis hnd hnc) (pa_cons (pe_glob (v := V.ref y) hgy hmy (show RelV (V.ref y) (Value.ref y) from rfl) hyd) pa_nil (hst3 a _)) (hst2 a _)) (he := hst2 a _) (hpl := hpl2 a _)))).run pins s σ H D I h
  · intro F0 H0 F H σ ρ r o ho Dn q
    unfold sTry at ho
    split at ho
    case isFalse => cases ho
    rename_i hlt
    obtain ⟨ds, e1, ho⟩ := Option.bind_eq_some_iff.mp ho
    obtain ⟨rr, e2, ho⟩ := Option.bind_eq_some_iff.mp ho
    refine (ha [] (fun _ _ => False)).se F H σ _ r.fh r.hid ds e1 _ fun vs F1 H1 g1 r1 => ?_
    refine ⟨F1, ds, rr, g1.fh, r1, by rw [← r1.len]; exact hm ds rr e2, e2, fun d hd v F2 H2 g2 r2 => ?_, fun x hx F2 H2 C g2 hC => ?_⟩
    · subst hd
      cases ho
      exact q F2 H2 σ (r.grow (g1.trans g2)) (g1.ff.trans g2.ff)
    · subst hx
      obtain ⟨b, hy, hb⟩ := Option.map_eq_some_iff.mp ho
      subst hb
      obtain ⟨z1, z2, z3⟩ := ct.is_ x b C hy hC
      refine ⟨true, z1, fun _ a ha2 => ⟨C, rfl, rfl, z2, ?_⟩, fun z => nomatch z⟩
      have hlen : i < σ.length := by rw [← r.len]; exact hlt
      refine ⟨.ref a, by rw [List.getElem?_set_self hlen], .ref y, .ref y, b, rfl, fun u hu => hu, z3, ?_⟩
      exact q F2 H2 _ (r.gr.trans (g1.trans g2)) (rep_bl.mpr rfl)
end Mi

/-! Mi14: dict of pairs, a tuple's index, len of a written dict. -/
namespace Mi
open PySem PySem.Spec PyProof.Rows L2
def pairD : D → Option (Key × D)
  | .tup [k, v] => k.key?.map fun k => (k, v)
  | _ => none
def pairsD : List D → Option (List (Key × D))
  | [] => some []
  | d :: ds => (pairD d).bind fun p => (pairsD ds).bind fun ps => some (p :: ps)
/-- dict(l) of a list of pairs -/
def dDictP : D → Option O
  | .lst xs => (pairsD xs).map fun ps => .k (mergeD [] ps)
  | _ => none
theorem pairs_rep {K : PySem.W.Frag} {F H : Hp} (e : Ex F H) : ∀ (xs : List D) (ps : List (Key × D)) (vs : List V), Reps K F xs vs → pairsD xs = some ps →
    ∃ (as : List Addr) (kvs : List (Key × V)), vs = as.map V.ref ∧ Paired (fun p kv => SqT K H p [kV kv.1, kv.2]) as kvs ∧ RepK K F ps kvs
  | [], ps, vs, r, h => by
    cases h
    rw [reps_nil] at r
    subst r
    exact ⟨[], [], rfl, .nil, repK_nil.mpr rfl⟩
  | d :: ds, ps, vs, r, h => by
    obtain ⟨v, r', rfl, rd, rr⟩ := reps_cons.mp r
    obtain ⟨p, h1, h⟩ := Option.bind_eq_some_iff.mp h
    obtain ⟨q, h2, h⟩ := Option.bind_eq_some_iff.mp h
    cases h
    obtain ⟨as, kvs, rfl, pr, rk⟩ := pairs_rep e ds q r' rr h2
    unfold pairD at h1
    split at h1
    · obtain ⟨k, h3, rfl⟩ := Option.map_eq_some_iff.mp h1
      obtain ⟨a, ws, rfl, ha, rw_⟩ := rep_tup.mp rd
      obtain ⟨x, ws, rfl, rx, rw_⟩ := reps_cons.mp rw_
      obtain ⟨y, ws, rfl, ry, rw_⟩ := reps_cons.mp rw_
      rw [reps_nil] at rw_
      subst rw_
      have ek := rep_key rx h3
      subst ek
      exact ⟨a :: as, (k, y) :: kvs, rfl, .cons (.of (e _ _ ha)) pr, repK_cons.mpr ⟨y, kvs, rfl, ry, rk⟩⟩
    · cases h1
theorem lf_dictP {K : PySem.W.Frag} : LfCN K (fun xs H Q => ∃ (a : Addr) (ps : List Addr) (kvs : List (Key × V)), xs = [.ref a] ∧ SqL K H a (ps.map V.ref) ∧ Paired (fun p kv => SqT K H p [kV kv.1, kv.2]) ps kvs ∧
    ∀ p, H p = none → Q (.ref p) (upd H p (.dK (mergeK [] kvs)))) (gN1 dDictP) := lf_gN1 fun F H a x e ra d hd Q q => by
  unfold dDictP at hd
  split at hd
  · obtain ⟨ps, h1, rfl⟩ := Option.map_eq_some_iff.mp hd
    obtain ⟨p, vs, rfl, hp, rs⟩ := rep_lst.mp ra
    obtain ⟨as, kvs, rfl, pr, rk⟩ := pairs_rep e _ _ _ rs h1
    exact ⟨p, as, kvs, rfl, .of (e _ _ hp), pr, fun l hl => q _ _ F _ (.off e hl) hl (e.free hl) upd_same ⟨_, rfl, RepK.merge rk (repK_nil.mpr rfl)⟩⟩
  · cases hd
/-! dict of pairs whose keys are tuples -/
def mergeT (kvs more : List (List Key × V)) : List (List Key × V) := more.foldl (fun acc kv => putK acc kv.1 kv.2) kvs
def mergeTD (kvs more : List (List Key × D)) : List (List Key × D) := more.foldl (fun acc kv => putD acc kv.1 kv.2) kvs
theorem mergeT_len : ∀ (more kvs : List (List Key × V)), (mergeT kvs more).length ≤ kvs.length + more.length
  | [], kvs => by simp [mergeT]
  | p :: more, kvs => by
    have h1 := mergeT_len more (putK kvs p.1 p.2)
    have h2 := length_putK kvs p.1 p.2
    show (mergeT (putK kvs p.1 p.2) more).length ≤ _
    simp only [List.length_cons]
    omega
theorem kt_merge {H : Hp} : ∀ {es : List (Addr × List Key × V)} {qs : List (List Key × Addr × Value)} {kvs : List (List Key × V)} {xs : List (List Key × Addr × Value)}, Paired (fun e q => e.2.1 = q.1 ∧ e.1 = q.2.1 ∧ H e.1 = some (.tup (e.2.1.map kV)) ∧ RelV e.2.2 q.2.2) es qs → KT H kvs xs →
    KT H (mergeT kvs (es.map (·.2))) (storedAllH xs qs)
  | _, _, _, _, .nil, r => r
  | _, _, kvs, xs, .cons (a := e) (b := q) (l₁ := l1) (l₂ := l2) h t, r => by
    obtain ⟨h1, h2, h3, h4⟩ := h
    obtain ⟨b, k, y⟩ := e
    obtain ⟨k', b', u⟩ := q
    simp only at h1 h2 h3 h4
    subst h1 h2
    show KT H (mergeT (putK kvs k y) (l1.map (·.2))) (storedAllH (storedH xs k b u) l2)
    exact kt_merge t (r.put k h3 h4)
def rDictT (K : PySem.W.Frag) : List V → Hp → VK → Prop := fun xs H Q => ∃ (a : Addr) (ps : List Addr) (es : List (Addr × List Key × V)), xs = [.ref a] ∧ SqL K H a (ps.map V.ref) ∧ Paired (fun p e => SqT K H p [V.ref e.1, e.2.2] ∧ H e.1 = some (.tup (e.2.1.map kV))) ps es ∧
  ∀ p, H p = none → Q (.ref p) (upd H p (.dT (mergeT [] (es.map (·.2)))))
theorem tpairs_of {X : Cx} {pins : List (Addr × Obj)} {σ : L2.St} {H : Hp} {s : Shared} (I : Inv X pins σ H s) : ∀ {ps : List Addr} {es : List (Addr × List Key × V)}, Paired (fun p e => SqT X.K H p [V.ref e.1, e.2.2] ∧ H e.1 = some (.tup (e.2.1.map kV))) ps es →
    ∃ qs : List (List Key × Addr × Value), Paired (fun e q => e.2.1 = q.1 ∧ e.1 = q.2.1 ∧ H e.1 = some (.tup (e.2.1.map kV)) ∧ RelV e.2.2 q.2.2) es qs ∧ qs.length = ps.length ∧
      ∀ (j : Nat) (q : List Key × Addr × Value), qs[j]? = some q → ∃ b : Addr, ps[j]? = some b ∧ IsTup s.heap b #[Value.ref q.2.1, q.2.2] ∧ H q.2.1 = some (.tup (q.1.map kV))
  | _, _, .nil => ⟨[], .nil, rfl, fun j q e => by simp at e⟩
  | _, _, .cons (a := p) (b := e) h t => by
    obtain ⟨qs, r, hl, hp⟩ := tpairs_of I t
    obtain ⟨its, rv, ht, _⟩ := I.tuple h.1
    obtain ⟨u, y, ei, ru, ry⟩ := vals2 rv
    subst ei
    cases (show u = Value.ref e.1 from ru)
    refine ⟨(e.2.1, e.1, y) :: qs, .cons ⟨rfl, rfl, h.2, ry⟩ r, by rw [List.length_cons, List.length_cons, hl], fun j q eq => ?_⟩
    cases j with
    | zero =>
      have e' : (e.2.1, e.1, y) = q := Option.some.inj eq
      subst e'
      exact ⟨p, rfl, ht, h.2⟩
    | succ j =>
      obtain ⟨b, e1, e2, e3⟩ := hp j q (by simpa using eq)
      exact ⟨b, by simpa using e1, e2, e3⟩
theorem call_dictT {X : Cx} (hcalm : X.calm = true) (hu : X.A.units + 64 < cLine) : CallR X (.type "dict") (rDictT X.K) := by
  intro pins s σ H xs us Q I r q
  obtain ⟨a, ps, es, ex, hq, hp, q⟩ := q
  subst ex
  obtain ⟨u, eu, rx⟩ := vals1 r
  subst eu
  cases rx
  obtain ⟨its, rv, pl, hz⟩ := I.list hq
  have ei := refs_at rv
  subst ei
  rw [List.length_map] at hz
  obtain ⟨qs, rel, hl, hpr⟩ := tpairs_of I hp
  have P := PySem.PairArg.list (prog := X.prog) (w := X.w) a (ps.map Value.ref).toArray (fun j => ps.getD j 0) (qs.map fun q => (Value.ref q.2.1, q.2.2))
  have hkey : ∀ x ∈ qs, H x.2.1 = some (.tup (x.1.map kV)) := fun x hx => by
    obtain ⟨j, hj⟩ := List.getElem?_of_mem hx
    obtain ⟨b, _, _, e3⟩ := hpr j x hj
    exact e3
  have hst : KeysStay (tupleKind (mixKind X.prog X.w)) s.heap s.heap.objs.size [] qs := fun h' hk x hx => by
    obtain ⟨o, its, n, h1, h2, h3, h4⟩ := key_of (P := X.prog) (w := X.w) I.hok (hkey x hx)
    exact ⟨o, its, n, hk _ _ (Nat.ne_of_lt (Heap.lt_size h1)) (by simp) h1, h2, h3, h4⟩
  have hlq : (qs.map fun q => (Value.ref q.2.1, q.2.2)).length = ps.length := by rw [List.length_map, hl]
  refine PySem.call_dict_pairsH (knd := tupleKind (mixKind X.prog X.w)) (ps := qs) P (I.ok.hd hcalm) ?_ ⟨pl, ?_⟩ ⟨by rw [List.length_map], fun i key v hr => ?_⟩ hst (by rw [hlq]; exact hz) fun h' tk dd k => ?_
  · show X.A.in1.in1.units < cLine
    have e1 : X.A.in1.in1.units = X.A.units + 2 := rfl
    omega
  · refine ⟨by rw [hlq]; simp, fun j ke v e => ?_⟩
    rw [List.getElem?_map] at e
    obtain ⟨q0, e1, e2⟩ := Option.map_eq_some_iff.mp e
    cases e2
    obtain ⟨b, e3, e4, _⟩ := hpr j q0 e1
    have e5 : ps.getD j 0 = b := by simp [e3]
    show _ = some (Value.ref (ps.getD j 0)) ∧ PairAt s.heap (ps.getD j 0) _ _
    rw [e5]
    exact ⟨by simp [e3], .inl e4⟩
  · have hr' : (qs.map fun q => (Value.ref q.2.1, q.2.2))[i]? = some (key, v) := hr
    rw [List.getElem?_map] at hr'
    obtain ⟨q0, e1, e2⟩ := Option.map_eq_some_iff.mp hr'
    cases e2
    exact ⟨q0.1, q0.2.1, e1, rfl⟩
  · have hm : (s.heap.objs.size == sysModules) = false := beq_eq_false_iff_ne.mpr (Nat.ne_of_gt I.big)
    have hlen : (mergeT [] (es.map (·.2))).length ≤ sizeLine := by
      refine Nat.le_trans (mergeT_len _ _) ?_
      rw [List.length_nil, Nat.zero_add, List.length_map, Paired.length rel, hl]
      exact hz
    have new := I.hok.fresh (Nat.le_refl s.heap.objs.size)
    obtain ⟨o, eS, ep, hq1, h2, h3, h4, _, h5⟩ := dd
    refine ⟨.ref s.heap.objs.size, upd H s.heap.objs.size (.dT (mergeT [] (es.map (·.2)))), I.laid (t' := tk) (fun b o e => k b o (by simp) e) (Nat.le_refl _) ?_, rfl, q _ new⟩
    exact ⟨hlen, hm, _, (kt_merge rel .nil).keeps fun c ys ec => by rw [upd_ne (ne_of_none ec new)]; exact ec, o, eS, ep, hq1, h2, h3, h4, h5⟩
def pairT : D → Option (List Key × D)
  | .tup [k, v] => k.keyT?.map fun k => (k, v)
  | _ => none
def pairsT : List D → Option (List (List Key × D))
  | [] => some []
  | d :: ds => (pairT d).bind fun p => (pairsT ds).bind fun ps => some (p :: ps)
theorem pairsT_rep {K : PySem.W.Frag} {F H : Hp} (e : Ex F H) : ∀ (xs : List D) (ps : List (List Key × D)) (vs : List V), Reps K F xs vs → pairsT xs = some ps →
    ∃ (as : List Addr) (es : List (Addr × List Key × V)), vs = as.map V.ref ∧ Paired (fun p e => SqT K H p [V.ref e.1, e.2.2] ∧ H e.1 = some (.tup (e.2.1.map kV))) as es ∧ RepT K F ps (es.map (·.2))
  | [], ps, vs, r, h => by
    cases h
    rw [reps_nil] at r
    subst r
    exact ⟨[], [], rfl, .nil, repT_nil.mpr rfl⟩
  | d :: ds, ps, vs, r, h => by
    obtain ⟨v, r', rfl, rd, rr⟩ := reps_cons.mp r
    obtain ⟨p, h1, h⟩ := Option.bind_eq_some_iff.mp h
    obtain ⟨q, h2, h⟩ := Option.bind_eq_some_iff.mp h
    cases h
    obtain ⟨as, es, rfl, pr, rk⟩ := pairsT_rep e ds q r' rr h2
    unfold pairT at h1
    split at h1
    · rename_i kd vd
      obtain ⟨k, h3, rfl⟩ := Option.map_eq_some_iff.mp h1
      obtain ⟨a, ws, rfl, ha, rw_⟩ := rep_tup.mp rd
      obtain ⟨x, ws, rfl, rx, rw_⟩ := reps_cons.mp rw_
      obtain ⟨y, ws, rfl, ry, rw_⟩ := reps_cons.mp rw_
      rw [reps_nil] at rw_
      subst rw_
      unfold D.keyT? at h3
      split at h3
      · obtain ⟨b, us, rfl, hb, ru⟩ := rep_tup.mp rx
        have ek := reps_keys ru h3
        subst ek
        exact ⟨a :: as, (b, k, y) :: es, rfl, .cons ⟨.of (e _ _ ha), e _ _ hb⟩ pr, repT_cons.mpr ⟨y, _, rfl, ry, rk⟩⟩
      · cases h3
    · cases h1
theorem RepT.merge {K : PySem.W.Frag} {F : Hp} : ∀ {more : List (List Key × D)} {rs : List (List Key × V)} {kvs : List (List Key × D)} {vs : List (List Key × V)}, RepT K F more rs → RepT K F kvs vs → RepT K F (mergeTD kvs more) (mergeT vs rs)
  | [], _, _, _, h, q => by
    rw [repT_nil] at h
    subst h
    exact q
  | (k, d) :: ps, _, kvs, vs, h, q => by
    obtain ⟨v, r, rfl, h1, t⟩ := repT_cons.mp h
    show RepT K F (mergeTD (putD kvs k d) ps) (mergeT (putK vs k v) r)
    exact RepT.merge t (RepT.put h1 q)
/-- dict(x): a copy, of pairs -/
def dDictA : D → Option O
  | .dK kvs => some (.k kvs)
  | .lst xs => match pairsD xs with
    | some ps => some (.k (mergeD [] ps))
    | none => (pairsT xs).map fun ps => .t (mergeTD [] ps)
  | _ => none
def rDictA (K : PySem.W.Frag) : List V → Hp → VK → Prop := fun xs H Q => (∃ (a : Addr) (kvs : List (Key × V)), xs = [.ref a] ∧ Rd H a (.dK kvs) ∧ ∀ p, H p = none → Q (.ref p) (upd H p (.dK kvs))) ∨
  (∃ (a : Addr) (ps : List Addr) (kvs : List (Key × V)), xs = [.ref a] ∧ SqL K H a (ps.map V.ref) ∧ Paired (fun p kv => SqT K H p [kV kv.1, kv.2]) ps kvs ∧ ∀ p, H p = none → Q (.ref p) (upd H p (.dK (mergeK [] kvs)))) ∨ rDictT K xs H Q
theorem call_dictA {X : Cx} (hcalm : X.calm = true) (hu : X.A.units + 64 < cLine) : CallR X (.type "dict") (rDictA X.K) := by
  intro pins s σ H xs us Q I r q
  rcases q with q | q | q
  · exact call_dictD pins s σ H xs us Q I r q
  · exact call_dictP hcalm pins s σ H xs us Q I r q
  · exact call_dictT hcalm hu pins s σ H xs us Q I r q
theorem lf_dictA {K : PySem.W.Frag} : LfCN K (rDictA K) (gN1 dDictA) := lf_gN1 fun F H a x e ra d hd Q q => by
  unfold dDictA at hd
  split at hd
  · cases hd
    obtain ⟨p, vs, rfl, hs, rs⟩ := rep_dK.mp ra
    exact .inl ⟨p, vs, rfl, .inl (e _ _ hs), fun l hl => q _ _ F _ (.off e hl) hl (e.free hl) upd_same ⟨vs, rfl, rs⟩⟩
  · obtain ⟨p, vs, rfl, hp, rs⟩ := rep_lst.mp ra
    split at hd
    · rename_i ps h1
      cases hd
      obtain ⟨as, kvs, rfl, pr, rk⟩ := pairs_rep e _ _ _ rs h1
      exact .inr (.inl ⟨p, as, kvs, rfl, .of (e _ _ hp), pr, fun l hl => q _ _ F _ (.off e hl) hl (e.free hl) upd_same ⟨_, rfl, RepK.merge rk (repK_nil.mpr rfl)⟩⟩)
    · obtain ⟨ps, h1, rfl⟩ := Option.map_eq_some_iff.mp hd
      obtain ⟨as, es, rfl, pr, rk⟩ := pairsT_rep e _ _ _ rs h1
      exact .inr (.inr ⟨p, as, es, rfl, .of (e _ _ hp), pr, fun l hl => q _ _ F _ (.off e hl) hl (e.free hl) upd_same ⟨_, rfl, RepT.merge rk (repT_nil.mpr rfl)⟩⟩)
  · cases hd
end Mi

/-! Mi15: != of the same data, dicts among them. -/
namespace Mi
open PySem PySem.Spec PyProof.Rows L2
open PySem.SeqAt (EqIn)
section
variable {prog : Program} {w : World}
theorem tuple_same (l b : Addr) (xs ys : Array Value) (n m : Nat) (d1 d2 : Option Addr) (s1 s2 : Array (Option Value)) (hs : xs.size = ys.size) :
    MeetsIn prog w (Builtin.«tuple.__ne__» ⟨[.ref l, .ref b], []⟩)
      (fun A R s => s.heap.get? l = some { cls := .type "tuple", dict := d1, data := .seq xs n, slots := s1 } ∧ s.heap.get? b = some { cls := .type "tuple", dict := d2, data := .seq ys m, slots := s2 } ∧
        (∀ j (h1 : j < xs.size) (h2 : j < ys.size), EqIn prog w A.in1 s xs[j] ys[j] true) ∧ R (.ok (.ret (.bool false))) s) :=
  .of_wp fun A R s hyp => by
    obtain ⟨hp, g, d, tk, os⟩ := s; obtain ⟨hl, hb, he, h⟩ := hyp
    have f2 := AutoSeq1.sub_tuple_tuple
    have zl : (xs.toList.zip ys.toList).length = xs.size := by simp [hs]
    wp_walk using wpAny_loadPart' hl, wpAny_loadPart' hb, wpAny_forIn_list _ (fun rest (b : _ × _) s' => b.1 = none ∧ s' = ⟨hp, g, d, tk, os⟩ ∧ ∃ i, rest = (xs.toList.zip ys.toList).drop i) _
    case turn =>
      rintro ⟨y, x⟩ rest b s' ⟨hb', rfl, i, hz⟩
      have hlt : i < (xs.toList.zip ys.toList).length := by
        by_cases q : i < (xs.toList.zip ys.toList).length
        · exact q
        · rw [List.drop_of_length_le (by omega)] at hz
          cases hz
      have k1 : i < xs.size := zl ▸ hlt
      have k2 : i < ys.size := hs ▸ k1
      rw [List.drop_eq_getElem_cons hlt] at hz
      injection hz with hyx hrest
      have ey : y = xs[i] := by simpa using congrArg Prod.fst hyx
      have ex : x = ys[i] := by simpa using congrArg Prod.snd hyx
      subst ey ex
      refine wpAny_bind (he i k1 k2 _ _ ?_)
      wp_walk
      exact ⟨rfl, rfl, i + 1, hrest⟩
    case fin =>
      rintro ⟨b1, b2⟩ s' ⟨hb', rfl, i, hz⟩
      simp only at hb'
      subst hb'
      wp_walk
      exact ⟨_, rfl, by simpa [Builtin.Tuple.tupleCompareSizes, hs] using h⟩
    case h =>
      exact ⟨rfl, rfl, 0, rfl⟩
theorem tuples_ne {A : Around} {s : Shared} {E Q : Value → Shared → Prop} {l b : Addr} {xs ys : Array Value} (hl : s.heap.IsTuple l xs) (hb : s.heap.IsTuple b ys) (hs : xs.size = ys.size) (hu : A.units < cLine)
    (he : ∀ j (h1 : j < xs.size) (h2 : j < ys.size), EqIn prog w A.in1 s xs[j] ys[j] true) (h : Q (.bool false) s) : wpAny (model prog w) A (compareOp .NotEq (.ref l) (.ref b)) Q E s := by
  obtain ⟨⟨c1, d1, dat1, s1⟩, g1, e1, n, e2⟩ := id hl
  obtain ⟨⟨c2, d2, dat2, s2⟩, g2, e3, m, e4⟩ := id hb
  simp only at e1 e2 e3 e4
  subst e1 e2 e3 e4
  exact wpAny_richCompare_same_room (T := "tuple") (op := .NotEq) ⟨_, g1, rfl⟩ ⟨_, g2, rfl⟩ F.slot_tuple_ne (call_meetsIn F.slot_tuple_ne ⟨_, g1, rfl⟩ F.entry_tuple_ne (F.args_tuple_ne_2 _ _) (tuple_same l b xs ys n m d1 d2 s1 s2 hs)
    ⟨g1, g2, he, show Value.bool false ≠ Value.notImplemented ∧ Q (.bool false) s from ⟨(fun x => nomatch x), h⟩⟩) hu
theorem dicts_ne {κ : Type} [DecidableEq κ] {knd : KeyKind prog w κ} {A : Around} {s : Shared} {E Q : Value → Shared → Prop} {a b : Addr} {ka kb : List (κ × Value)} (ya : (a == sysModules) = false) (yb : (b == sysModules) = false)
    (da : s.heap.DictOf knd a ka) (db : s.heap.DictOf knd b kb) (hu : A.units < cLine) (hl : ka.length = kb.length) (hits : PySem.W.KeqHitsIn prog w A.in1 s kb ka true) (h : Q (.bool false) s) :
    wpAny (model prog w) A (compareOp .NotEq (.ref a) (.ref b)) Q E s := by
  refine wpAny_richCompare_same_room (op := .NotEq) da.typeIs db.typeIs F.slot_dict_ne (wpAny_call_entry F.slot_dict_ne da.typeIs F.entry_dict_ne ?goal (F.args_dict_ne_2 _ _)) hu
  show wpAny _ A.in1 (Builtin.Dict.dictSlotArgs "__ne__" ⟨[.ref a, .ref b], []⟩ >>= _) _ _ _
  unfold Builtin.Dict.dictSlotArgs
  refine wpAny_bind (wpAny_bind (wpAny_notOrdered_dict da.typeIs ?_))
  show wpAny _ A.in1 (pure (Value.ref a, Value.ref b)) _ _ _
  refine wpAny_pure (wpAny_bind (wpAny_isInstance (T := "dict") db.typeIs F.sub_dict_dict ?_))
  simp only [Bool.not_true, Bool.false_eq_true, if_false]
  refine wpAny_bind (wpAny_pure (wpAny_bind (wpAny_pure (wpAny_bind (PySem.W.keq_samePairsIn ya yb da db (fun _ => hits) ?_)))))
  exact wpAny_pure ⟨_, rfl, (fun x => nomatch x), by simpa [hl] using h⟩
end
section
open PySem.W
variable {X : Cx} {pins : List (Addr × Obj)} {σ : L2.St} {H : Hp} {s : Shared}
def notL : D → Bool
  | .lst _ => false
  | _ => true
theorem ne_same (I : Inv X pins σ H s) {A : Around} (hu : A.units + 64 < cLine) {d e : D} {x y : V} {v u : Value} (h : same d e = true) (hn : notL d = true) (hd : dep d ≤ 60) (h0 : 0 < dep d) (r1 : Rep X.K H d x) (r2 : Rep X.K H e y) (q1 : RelV x v) (q2 : RelV y u)
    {E Q : Value → Shared → Prop} (q : Q (.bool false) s) : wpAny (model X.prog X.w) A (compareOp .NotEq v u) Q E s := by
  have e1 : A.in1.units = A.units + 1 := rfl
  cases d with
  | tup ds =>
    cases e <;> simp only [same, Bool.false_eq_true] at h
    rename_i es
    obtain ⟨a, vs, rfl, h1, p1⟩ := rep_tup.mp r1
    obtain ⟨b, us, rfl, h2, p2⟩ := rep_tup.mp r2
    cases q1; cases q2
    simp only [dep] at hd
    obtain ⟨its, rv, t1, z1⟩ := I.tuple (.of h1)
    obtain ⟨iu, ru, t2, z2⟩ := I.tuple (.of h2)
    have hl := trees_same I ds es 59 vs us its iu h (by omega) p1 p2 rv ru
    exact tuples_ne t1 t2 (by simp [hl.1]) (by omega) (fun j h1 h2 => (show EqTree X.prog X.w s 59 its.toArray[j] iu.toArray[j] true by simpa using hl.2 j (by simpa using h1) (by simpa using h2)).at A.in1 (by omega)) q
  | lst ds => cases hn
  | dK ds =>
    cases e <;> simp only [same, Bool.false_eq_true] at h
    rename_i es
    obtain ⟨a, vs, rfl, h1, p1⟩ := rep_dK.mp r1
    obtain ⟨b, us, rfl, h2, p2⟩ := rep_dK.mp r2
    cases q1; cases q2
    simp only [dep] at hd
    obtain ⟨_, ya, va, ra, da⟩ := (show ObjOk X.prog X.w H s.heap a (.dK vs) from I.hok a _ h1)
    obtain ⟨_, yb, vb, rb, db⟩ := (show ObjOk X.prog X.w H s.heap b (.dK us) from I.hok b _ h2)
    have nd : (va.map (·.1)).Nodup := by
      obtain ⟨_, _, _, _, _, _, _, _, nd⟩ := da
      exact nd
    have hl := treesK_same I ds es 59 vs us va vb h (by omega) p1 p2 ra rb
    have e2 : ∀ k v, (k, v) ∈ va → ∃ y, valueAt vb k = some y ∧ EqTree X.prog X.w s 59 v y true := hl.2 nd
    have hits := KeqHitsIn.of (prog := X.prog) (w := X.w) (A := A.in1) (s := s) (kb := vb) (e := fun _ => true) va fun k v y hm hv => by
      obtain ⟨y', h3, h4⟩ := e2 k v hm
      rw [hv] at h3
      cases h3
      exact h4.at A.in1 (by omega)
    have e0 : (va.all fun p => (valueAt vb p.1).isSome && true) = true := by
      simp only [Bool.and_true, List.all_eq_true]
      intro p hp
      obtain ⟨y', h3, h4⟩ := e2 p.1 p.2 hp
      rw [h3]; rfl
    rw [e0] at hits
    exact dicts_ne ya yb da db (by omega) hl.1 hits q
  | _ => simp [dep] at h0
end
def rNeS (K : PySem.W.Frag) : R2 := fun x y H Q => rNeA K x y H Q ∨ ∃ d e, same d e = true ∧ notL d = true ∧ dep d ≤ 60 ∧ 0 < dep d ∧ Rep K H d x ∧ Rep K H e y ∧ Q (.bl false) H
theorem op_neS {X : Cx} (K : PySem.W.Frag) (hu : X.A.units + 64 < cLine) (hK : X.K = K := by rfl) : OpR X (compareOp .NotEq) (rNeS K) := by
  subst hK
  refine OpR.or (op_neA hu) ?_
  intro pins s σ H x y v u Q I rx ry h
  obtain ⟨d, e, h1, h2, h3, h4, h5, h6, q⟩ := h
  exact ne_same I hu h1 h2 h3 h4 h5 h6 rx ry ⟨.bl _, H, I, rfl, q⟩
def dNeS (a b : D) : Option D := match dNeP a b with
  | some d => some d
  | none => if same a b = true ∧ notL a = true ∧ dep a ≤ 60 ∧ 0 < dep a then some (.bl false) else none
theorem lf_neS {K : PySem.W.Frag} : Lf2 K (rNeS K) dNeS := fun F H a b x y e ra rb d hd Q q => by
  unfold dNeS at hd
  split at hd
  · rename_i d' h1
    cases hd
    exact .inl (lf_ne F H a b x y e ra rb d h1 Q q)
  · split at hd
    · rename_i hs
      cases hd
      exact .inr ⟨a, b, hs.1, hs.2.1, hs.2.2.1, hs.2.2.2, ra.m e, rb.m e, q _ F H (.refl e) (rep_bl.mpr rfl)⟩
    · cases hd
end Mi

/-! Mi16: isinstance of data. -/
namespace Mi
open PySem PySem.Spec PyProof.Rows L2
def tyN : D → Option String
  | .int _ => some "int"
  | .tup _ => some "tuple"
  | .lst _ => some "list"
  | .dK _ => some "dict"
  | .dT _ => some "dict"
  | .str _ => some "str"
  | _ => none
theorem tyN_ok {K : PySem.W.Frag} {F H : Hp} {d : D} {v : V} {t : String} (e : Ex F H) (r : Rep K F d v) (h : tyN d = some t) : TyX K H v (.type t) := by
  unfold tyN at h
  split at h
  · cases h; rw [rep_int.mp r]; exact .base (.int _)
  · cases h
    obtain ⟨a, vs, rfl, ha, _⟩ := rep_tup.mp r
    exact .base (.tup (e _ _ ha))
  · cases h
    obtain ⟨a, vs, rfl, ha, _⟩ := rep_lst.mp r
    exact .base (.lst (e _ _ ha))
  · cases h
    obtain ⟨a, vs, rfl, ha, _⟩ := rep_dK.mp r
    exact .base (.dK (e _ _ ha))
  · cases h
    obtain ⟨a, vs, rfl, ha, _⟩ := rep_dT.mp r
    exact .base (.dT (e _ _ ha))
  · cases h; rw [rep_str.mp r]; exact .base (.str _)
  · cases h
def isaT (t c : String) : Option Bool := if t = "int" ∧ c = "int" then some true else if t = "tuple" ∧ c = "tuple" then some true else if t = "dict" ∧ c = "int" then some false else if t = "dict" ∧ c = "tuple" then some false else none
theorem isaT_ok {K : PySem.W.Frag} {t c : String} {b : Bool} (h : isaT t c = some b) : PySem.W.kitOne K (.type t) (.type c) = some b := by
  unfold isaT at h
  split at h
  · rename_i z; obtain ⟨rfl, rfl⟩ := z; cases h; exact kit_ty (by decide +kernel)
  split at h
  · rename_i z; obtain ⟨rfl, rfl⟩ := z; cases h; exact kit_ty (by decide +kernel)
  split at h
  · rename_i z; obtain ⟨rfl, rfl⟩ := z; cases h; exact kit_ty (by decide +kernel)
  split at h
  · rename_i z; obtain ⟨rfl, rfl⟩ := z; cases h; exact kit_ty (by decide +kernel)
  · cases h
def gIsi : List D → Option D
  | [d, .ty c] => (tyN d).bind fun t => (isaT t c).map .bl
  | _ => none
theorem lf_isi {K : PySem.W.Frag} : LfC K (rIsi K) gIsi := fun F H a x e ra d hd Q q => by
  unfold gIsi at hd
  split at hd
  · obtain ⟨v, u, rfl, r1, r2⟩ := two_of ra
    obtain ⟨t, h1, hd⟩ := Option.bind_eq_some_iff.mp hd
    obtain ⟨b, h2, rfl⟩ := Option.map_eq_some_iff.mp hd
    rw [rep_ty.mp r2]
    exact ⟨v, _, _, _, b, rfl, .ty _, tyN_ok e r1 h1, isaT_ok h2, q _ F H (.refl e) (rep_bl.mpr rfl)⟩
  · cases hd
theorem cl_isi {X : Cx} (K : PySem.W.Frag) (hK : X.K = K := by rfl) : CallR X (.builtin "isinstance") (rIsi K) := hK ▸ call_isi
/-! len of a written dict -/
section
variable {prog : Program} {w : World} {A : Around} {E : Value → Shared → Prop} {s : Shared}
theorem len_raw {d : Addr} {o : Obj} {es : Array DictEntry} {n : Nat} {Q : Value → Shared → Prop} (hd : (d == sysModules) = false) (ho : s.heap.get? d = some o) (hc : o.ExactDict) (hdat : o.data = .dict es n) (hfit : (es.size : Int) < 2 ^ 63)
    (h : ∀ t, Q (.int es.size t) { s with toks := t + 1 }) : wpAny (model prog w) A (call (.builtin "len") [.ref d]) Q E s := by
  have ty : s.TypeIs (.ref d) "dict" := ⟨o, ho, hc.1⟩
  refine Calls.call_function_entry kind_len plain_len entry_len (args_len1 _) ?_
  unfold Builtin.«len»
  refine wpAny_bind (m := oneArg "len" _) (wpAny_pure ?_)
  refine wpAny_bind (m := callSpecial? (.ref d) (Str.ofString "__len__")) (wpAny_callSpecial?_slot (name := Str.ofString "__len__") ty F.slot_dict_len (call_meetsIn F.slot_dict_len ty F.entry_dict_len (F.args_dict_len_1 _) (meets_dict_len_raw d hd) ⟨es, n, ⟨o, ho, hc, hdat⟩, ?_⟩))
  show wpAny _ _ _ _ _ { s with toks := s.toks + 1 }
  refine wpAny_bind (wpAny_holding (wpAny_pure (wpAny_bind (wpAny_letGo ?_))))
  show wpAny _ _ (if ((es.size : Nat) : Int) < 0 then _ else _) _ _ _
  rw [if_neg (by omega)]
  show wpAny _ _ (if ((es.size : Nat) : Int) ≥ 2 ^ 63 then _ else _) _ _ _
  rw [if_neg (by omega)]
  exact wpAny_bind (wpAny_mkInt (wpAny_pure ⟨_, rfl, h _⟩))
end
section
variable {X : Cx} {x : Str} {p p2 pos : Pos}
theorem call_lenK {d : Addr} {es : Array DictEntry} {n k : Nat} (D : KDict X.K X.w d es n) (hk : es.size = k) (hfit : k < 1000) : CallR X (.builtin "len") (fun xs H Q => xs = [.ref d] ∧ Q (.int k) H) := by
  intro pins s σ H xs us Q I r h
  obtain ⟨rfl, q⟩ := h
  obtain ⟨u, rfl, rx⟩ := vals1 r
  obtain rfl : u = .ref d := rx
  subst hk
  exact len_raw D.low (I.kIn _ _ D.at_) ⟨rfl, rfl, rfl⟩ rfl (by omega) fun t => ⟨.int es.size, H, I.tok _, ⟨_, rfl⟩, q⟩
theorem se_lenK {d : Addr} {es : Array DictEntry} {n k : Nat} (D : KDict X.K X.w d es n) (hk : es.size = k) (hfit : k < 1000) (hg : Gl X "len") (hm : X.mg "len" = none) (hg2 : Gl X x) (hm2 : X.mg x = some (.ref d))
    (hx : (x == ("__debug__" : Str)) = false := by decide) (he : starEach [.Name x p2] X.env = (false, eval (.Name x p2) X.env) :: starEach [] X.env := by rfl) (hpl : (backTo pos (starEach [] X.env)).any (·.1) = false := by rfl) :
    SE X (.Call (.Name "len" p) [.Name x p2] [] pos) (tCB (fun xs H Q => xs = [.ref d] ∧ Q (.int k) H) (tCons (tC (.ref d)) tNil)) (eC (.int k)) :=
  ⟨pe_callB (call_lenK D hk hfit) hg hm PySem.boot_len (pa_cons (pe_glob (v := V.ref d) hg2 hm2 (show RelV (V.ref d) (Value.ref d) from rfl) hx) pa_nil he) (he := he) (hpl := hpl), fun F H σ ρ e r dd hd Q q => by
    cases hd
    exact ⟨rfl, q _ F H (.refl e) (rep_int.mpr rfl)⟩⟩
end
end Mi

/-! Mi17: a tuple made of a list, known to have no dict; its index. -/
namespace Mi
open PySem PySem.Spec PyProof.Rows L2
def rTupF (K : PySem.W.Frag) : List V → Hp → VK → Prop := fun xs H Q => ∃ (p : Addr) (ys : List V), xs = [.ref p] ∧ SqL K H p ys ∧ ∀ (l : Addr) (o : Obj), H l = none → o.cls = .type "tuple" → o.dict = none → Q (.ref l) (upd H l (.frz o (.tup ys)))
theorem call_tupF {X : Cx} (K : PySem.W.Frag) (hK : X.K = K := by rfl) : CallR X (.type "tuple") (rTupF K) := by
  subst hK
  intro pins s σ H xs us Q I r h
  obtain ⟨p, ys, rfl, hq, q⟩ := h
  obtain ⟨u, rfl, rx⟩ := vals1 r
  cases rx
  obtain ⟨its, rv, pl, hz⟩ := I.list hq
  have hlen := rv.length
  refine call_tuple_list pl.isList (fun h' kp => ?_) (by simp only [List.size_toArray] <;> omega)
  have J : Inv X pins σ H { s with heap := h' } := I.kept (t' := s.toks) kp
  have new := J.hok.fresh (Nat.le_refl h'.objs.size)
  exact ⟨.ref h'.objs.size, _, J.laid (t' := s.toks) (o := .frz { cls := .type "tuple", data := .seq its.toArray } (.tup ys)) (fun b o e => Heap.get?_push_of_some _ e) (Nat.le_refl _)
    ⟨Heap.get?_push_size _ rfl, hz, its, rv, IsTup.new _ _⟩, rfl, q _ _ new rfl rfl⟩
def dTupF : D → Option D
  | .lst xs => some (.kt xs)
  | _ => none
theorem lf_tupF {K : PySem.W.Frag} : LfC K (rTupF K) (g1 dTupF) := lf_g1 fun F H a x e ra d hd Q q => by
  unfold dTupF at hd
  split at hd
  · cases hd
    obtain ⟨p, vs, rfl, hp, rs⟩ := rep_lst.mp ra
    refine ⟨p, vs, rfl, .of (e _ _ hp), fun l o hl c1 c2 => ?_⟩
    exact q _ _ _ (.new e hl) (rep_kt.mpr ⟨l, vs, rfl, .inl (.inr ⟨o, upd_same⟩), .inr ⟨o, vs, upd_same, c1, c2⟩, rs.m (.new (e.free hl))⟩)
  · cases hd
/-! t.index(n) of whole numbers -/
theorem ints_rep {K : PySem.W.Frag} {H : Hp} : ∀ (ds : List D) (ns : List Int) (vs : List V), Reps K H ds vs → intsD ds = some ns → vs = ns.map V.int
  | [], ns, vs, r, h => by
    cases h
    exact reps_nil.mp r
  | d :: ds, ns, vs, r, h => by
    obtain ⟨v, r', rfl, rd, rr⟩ := reps_cons.mp r
    unfold intsD at h
    obtain ⟨n, h1, h⟩ := Option.bind_eq_some_iff.mp h
    obtain ⟨m, h2, h⟩ := Option.bind_eq_some_iff.mp h
    cases h
    have e1 : d = .int n := by
      cases d <;> simp only [D.i?, Option.some.injEq, reduceCtorEq] at h1
      subst h1; rfl
    subst e1
    rw [rep_int.mp rd, ints_rep _ m r' rr h2]
    rfl
theorem intsAre_of : ∀ {ns : List Int} {us : List Value}, Vals (ns.map V.int) us → IntsAre us ns
  | [], _, h => by cases h; exact .nil
  | n :: ns, _, h => by
    cases h with
    | cons r t =>
      obtain ⟨tk, q⟩ := (show ∃ t, _ = Value.int n t from r)
      subst q
      exact .cons n tk (intsAre_of t)
def rIdxT (K : PySem.W.Frag) : V → List V → Hp → VK → Prop := fun x xs H Q => ∃ (a : Addr) (ns : List Int) (n : Int), x = .ref a ∧ xs = [.int n] ∧ SqT K H a (ns.map V.int) ∧ n ∈ ns ∧ Q (.int (ns.idxOf n : Nat)) H
theorem mt_idxT {X : Cx} : MtR X "tuple.index" (rIdxT X.K) := by
  intro pins s σ H x xs v us Q I rx rxs h
  obtain ⟨a, ns, n, rfl, rfl, hs, hn, q⟩ := h
  cases rx
  cases rxs with
  | cons ry rt =>
    cases rt
    obtain ⟨tk, ey⟩ := (show ∃ t, _ = Value.int n t from ry)
    subst ey
    obtain ⟨its, rv, tp, hz⟩ := I.tuple hs
    exact PySem.SeqAt.tuple_index_ints tp (intsAre_of rv) hn ⟨.int (ns.idxOf n : Nat), H, I.tok _, ⟨_, rfl⟩, q⟩
def tIdx (K : PySem.W.Frag) (to te : TE) : TE := fun σ H Q => to σ H fun x H1 => (∃ a, x = .ref a ∧ TD K H1 a) ∧ te σ H1 fun y H2 => rIdxT K x [y] H2 Q
def dIdx : D → D → Option D
  | .kt xs, .int n => (intsD xs).bind fun ns => if n ∈ ns then some (.int (ns.idxOf n : Nat)) else none
  | _, _ => none
section
variable {X : Cx} {o e : Expr} {to te : TE} {fo fe : FE} {apos cpos : Pos}
theorem td_is {pins : List (Addr × Obj)} {σ : L2.St} {H : Hp} {s : Shared} {a : Addr} (I : Inv X pins σ H s) (h : TD X.K H a) : s.TypeIs (.ref a) "tuple" ∧ ∀ b, Value.ref a = .ref b → ∃ ob, s.heap.get? b = some ob ∧ ob.dict = none := by
  have z : ∃ ob, s.heap.get? a = some ob ∧ ob.cls = .type "tuple" ∧ ob.dict = none := by
    rcases h with ⟨ob, k, c1, c2⟩ | ⟨ob, xs, k, c1, c2⟩
    · exact ⟨ob, I.kIn a ob k, c1, c2⟩
    · exact ⟨ob, (show s.heap.get? a = some ob ∧ _ from I.hok a _ k).1, c1, c2⟩
  obtain ⟨ob, h1, h2, h3⟩ := z
  exact ⟨⟨ob, h1, h2⟩, fun b e => by cases e; exact ⟨ob, h1, h3⟩⟩
theorem pe_idx (ho : PE X o to) (he : PE X e te)
    (hbase : attributeBase o "index" X.env (eval o X.env) = eval o X.env := by rfl)
    (hfew : ((backTo cpos (starEach [e] X.env)).all (fun x => !x.1) && (backToKw cpos (keywordEach [] X.env)).all (fun x => x.1.isSome) && decide ([e].length + ([] : List Keyword).length + (if ([] : List Keyword).isEmpty then 0 else 1) < 30)) = true := by rfl)
    (hline : (apos.endLine == cpos.line) = true := by rfl) (hs : starEach [e] X.env = (false, eval e X.env) :: starEach [] X.env := by rfl) (hplain : (backTo cpos (starEach [] X.env)).any (·.1) = false := by rfl) :
    PE X (.Call (.Attribute o "index" apos) [e] [] cpos) (tIdx X.K to te) := by
  refine ⟨fun pins s σ H Q I h => ?_⟩
  refine wpAny_Call_method_late hbase hfew hline rfl (thn (ho.run pins s σ H _ I h) fun v s1 ⟨x, H1, I1, r1, ⟨a, ex, td⟩, q1⟩ => ?_)
  subst ex
  cases (show v = Value.ref a from r1)
  obtain ⟨h1, h2⟩ := td_is I1 td
  refine ⟨"tuple", "tuple.index", F.plainAttrs_tuple, F.slot_tuple_index, F.type_tuple_index, h1, h2, ?_⟩
  have arg := (pa_cons he pa_nil hs).run cpos pins s1 σ H1 (fun vs H2 => rIdxT X.K (V.ref a) vs H2 Q) I1 q1
  rw [hs] at arg ⊢
  refine Calls.callWith_builtin (by show (false || (backTo cpos (starEach [] X.env)).any (·.1)) = false; rw [hplain] <;> rfl) (Calls.evalArgs_plain (thn arg fun us s2 z => ?_))
  obtain ⟨vs, H2, I2, r2, q2⟩ := z
  exact mt_idxT pins s2 σ H2 _ vs _ us Q I2 (show RelV (V.ref a) (Value.ref a) from rfl) r2 q2
theorem se_idx (ho : SE X o to fo) (he : SE X e te fe)
    (hbase : attributeBase o "index" X.env (eval o X.env) = eval o X.env := by rfl)
    (hfew : ((backTo cpos (starEach [e] X.env)).all (fun x => !x.1) && (backToKw cpos (keywordEach [] X.env)).all (fun x => x.1.isSome) && decide ([e].length + ([] : List Keyword).length + (if ([] : List Keyword).isEmpty then 0 else 1) < 30)) = true := by rfl)
    (hline : (apos.endLine == cpos.line) = true := by rfl) (hs : starEach [e] X.env = (false, eval e X.env) :: starEach [] X.env := by rfl) (hplain : (backTo cpos (starEach [] X.env)).any (·.1) = false := by rfl) :
    SE X (.Call (.Attribute o "index" apos) [e] [] cpos) (tIdx X.K to te) (e2 dIdx fo fe) :=
  ⟨pe_idx ho.pe he.pe hbase hfew hline hs hplain, fun F H σ ρ ee r d hd Q q => by
    obtain ⟨x, h1, hd⟩ := Option.bind_eq_some_iff.mp hd
    obtain ⟨y, h2, hd⟩ := Option.bind_eq_some_iff.mp hd
    refine ho.se F H σ ρ ee r x h1 _ fun v F1 H1 g1 r1 => ?_
    unfold dIdx at hd
    split at hd
    · rename_i xs n _
      obtain ⟨ns, h3, hd⟩ := Option.bind_eq_some_iff.mp hd
      split at hd
      · rename_i hn
        cases hd
        obtain ⟨p, vs, rfl, hp, td, rs⟩ := rep_kt.mp r1
        refine ⟨⟨p, rfl, td.m g1.fh⟩, he.se F1 H1 σ ρ g1.fh (r.m g1.ff) _ h2 _ fun v2 F2 H2 g2 r2 => ?_⟩
        rw [rep_int.mp r2]
        have e3 := ints_rep _ _ _ rs h3
        subst e3
        exact ⟨p, ns, n, rfl, rfl, (g1.fh.trans g2.hh).t hp, hn, q _ F2 H2 (g1.trans g2) (rep_int.mpr rfl)⟩
      · cases hd
    · cases hd⟩
end
end Mi

/-! Mi18: the rules of Mi17 with K told by name; what a raise asks. -/
namespace Mi
open PySem PySem.Spec PyProof.Rows L2
theorem mb_isi : bootBuiltins "isinstance" = some (.builtin "isinstance") := by decide +kernel
structure ExcZ (P : Program) (w : World) (K : PySem.W.Frag) (mg : Str → Option Value) (base : Heap) (x : Str) (C fI : Addr) (fd : FuncData) : Prop where
  T : OexC K C
  iC : PySem.W.findIn K (.ref C) "__init__" = some (some (.ref fI))
  tI : PySem.W.typeIn K (.ref fI) = some (.type "function")
  F1 : FnOk P w K mg base CX0 1 fI fd ["self"] (spI K)
  hb : Binds K fd ["self"] []
  hm : mg x = some (.ref C)
section
variable {X : Cx} {o e : Expr} {to te : TE} {fo fe : FE} {apos cpos : Pos}
theorem sx_idx (K : PySem.W.Frag) (ho : SE X o to fo) (he : SE X e te fe)
    (hbase : attributeBase o "index" X.env (eval o X.env) = eval o X.env := by rfl)
    (hfew : ((backTo cpos (starEach [e] X.env)).all (fun x => !x.1) && (backToKw cpos (keywordEach [] X.env)).all (fun x => x.1.isSome) && decide ([e].length + ([] : List Keyword).length + (if ([] : List Keyword).isEmpty then 0 else 1) < 30)) = true := by rfl)
    (hline : (apos.endLine == cpos.line) = true := by rfl) (hs : starEach [e] X.env = (false, eval e X.env) :: starEach [] X.env := by rfl) (hplain : (backTo cpos (starEach [] X.env)).any (·.1) = false := by rfl) (hK : X.K = K := by rfl) :
    SE X (.Call (.Attribute o "index" apos) [e] [] cpos) (tIdx K to te) (e2 dIdx fo fe) := by
  subst hK
  exact se_idx ho he hbase hfew hline hs hplain
end
end Mi

/-! Mi19: defs with a default. -/
namespace Mi
open PySem PySem.Spec PyProof.Rows L2
/-- a def that is called with n arguments; the defaults dd fill up -/
structure FxD (P : Program) (w : World) (K : PySem.W.Frag) (mg : Str → Option Value) (base : Heap) (k : Nat) (x : Str) (n : Nat) (dvs : List V) (dd : List D) (m : List D → Option D) : Prop where
  ok : ∃ f fd ps ds, FnOk P w K mg base CX0 k f fd ps (spD K (n + dd.length) m) ∧ mg x = some (.ref f) ∧ PySem.W.keepIn K (.ref f) = true ∧ Binds K fd ps ds ∧ Vals dvs ds
  rep : ∀ F, Reps K F dd dvs
  hm : ∀ ds d, m ds = some d → ds.length = n + dd.length
section
variable {P : Program} {w : World} {K : PySem.W.Frag} {mg : Str → Option Value} {base : Heap}
theorem fd_ok {x : Str} {st : Stmt} {f : Addr} {fd : FuncData} {N ps : List Str} {dvs : List V} {k n m : Nat} {g : FS} (Fn : FunD K x x (defArgs st) (defBody st) (defScope st) dvs [] f fd) (S : FnScope N ps (defScope st)) (hpl : ps.length ≤ N.length) (hn : ps.length = n) (hm : N.length = m)
    (body : ∀ (cdv : Value) (A : Around) (outer : List Env) (s : Shared) (H : Hp) (W : XK), Room k (A.deeper (envOfC x (defScope st) s.heap.objs.size f cdv)) →
      SSs (cxOf CX0 P w K mg base N x (defScope st) f cdv A outer s H W).nox E0 (defBody st) g) : FnOk P w K mg base CX0 (k + 1) f fd ps (spD K n (defM m n g)) := by
  subst hn hm
  refine Fn.ok S (fun vs H Q W h => ?_) (fun cdv A outer s H vs Q W hr h => ?_)
  · obtain ⟨F, ds, d, _, _, hl, _⟩ := h
    exact hl
  · obtain ⟨F, ds, d, e, r, hl, hd, q⟩ := h
    obtain ⟨t, hp, hs⟩ := body cdv A outer s H W hr
    refine ⟨t, hp.nox, ?_⟩
    have hdl : ds.length = ps.length := by rw [r.len, hl]
    unfold defM at hd
    rw [if_pos hdl] at hd
    obtain ⟨o, ho, hd⟩ := Option.bind_eq_some_iff.mp hd
    rw [← hdl] at ho
    refine hs F H F H _ _ (rs_start e r (by omega)) o ho _ ?_
    cases o with
    | nx ρ =>
      cases hd
      exact fun F1 H1 σ r1 _ => q _ F1 H1 r1.gr (rep_non.mpr rfl)
    | rt d' =>
      cases hd
      exact fun F1 H1 v g1 r1 => q v F1 H1 g1 r1
    | bk ρ => cases hd
    | ct ρ => cases hd
    | ex c => cases hd
/-- called with every argument; with the last j of dd left out -/
theorem fxd_mkL {x : Str} {st : Stmt} {f : Addr} {fd : FuncData} {N ps : List Str} {dvs : List V} {k n m : Nat} {g : FS} (a j : Nat) (dd : List D) (Fn : FunD K x x (defArgs st) (defBody st) (defScope st) dvs [] f fd) (S : FnScope N ps (defScope st)) (hmg : mg x = some (.ref f))
    (hb : ∃ ds, Vals (dvs.drop j) ds ∧ Binds K fd ps ds) (hr : ∀ F, Reps K F dd (dvs.drop j)) (hpl : ps.length ≤ N.length) (hn : ps.length = n) (ha : a + dd.length = n) (hm : N.length = m)
    (body : ∀ (cdv : Value) (A : Around) (outer : List Env) (s : Shared) (H : Hp) (W : XK), Room k (A.deeper (envOfC x (defScope st) s.heap.objs.size f cdv)) →
      SSs (cxOf CX0 P w K mg base N x (defScope st) f cdv A outer s H W).nox E0 (defBody st) g) : FxD P w K mg base (k + 1) x a (dvs.drop j) dd (defM m n g) := by
  obtain ⟨ds, h1, h2⟩ := hb
  refine ⟨⟨f, fd, ps, ds, ?_, hmg, Fn.kp, h2, h1⟩, hr, fun xs d h => ?_⟩
  · rw [ha]
    exact fd_ok Fn S hpl hn hm body
  · rw [defM_len _ _ h, ha]
end
section
variable {X : Cx} {e : Expr} {es : List Expr} {t : TA} {f : E → Option (List D)} {pos p : Pos} {x : Str}
theorem sx_callD (K : PySem.W.Frag) {P : Program} {w : World} {mg : Str → Option Value} {base : Heap} {k n : Nat} {dvs : List V} {dd : List D} {m : List D → Option D} (F : FxD P w K mg base k x n dvs dd m) (hr : Room k X.A) (hg : Gl X x) (ha : SA X (e :: es) t f) (hP : X.prog = P := by rfl) (hw : X.w = w := by rfl) (hK : X.K = K := by rfl) (hmg : X.mg = mg := by rfl) (hb : X.base = base := by rfl)
    (hdb : (x == ("__debug__" : Str)) = false := by decide) (he : starEach (e :: es) X.env = (false, eval e X.env) :: starEach es X.env := by rfl)
    (hpl : (backTo pos (starEach es X.env)).any (·.1) = false := by rfl) : SE X (.Call (.Name x p) (e :: es) [] pos) (tCall (spD K (n + dd.length) m) dvs E0 t) (eA (fun ds => m (ds ++ dd)) f) := by
  subst hP hw hK hmg hb
  obtain ⟨a, fd, ps, ds, h1, h2, h3, h4, h5⟩ := F.ok
  refine ⟨pe_call h1 hr hg h2 h3 h4 h5 pass0 ha.pe hdb he hpl, fun F' H σ ρ e r d hd Q q => ?_⟩
  obtain ⟨xs, e1, e2⟩ := Option.bind_eq_some_iff.mp hd
  refine ha.se F' H σ ρ e r xs e1 _ fun vs F1 H1 g1 r1 => ?_
  have hl := F.hm _ _ e2
  have rr : Reps X.K F1 (xs ++ dd) (vs ++ dvs) := r1.append (F.rep F1)
  exact ⟨F1, _, d, g1.fh, rr, by rw [← rr.len, hl], e2, fun v F2 H2 g2 r2 => q v F2 H2 (g1.trans g2) r2⟩
end
end Mi

/-! Mi20: facts of the module's objects; objects of own classes that never change, as data. -/
namespace Mi
open PySem PySem.Spec PyProof.Rows L2
theorem FxD.fx {P : Program} {w : World} {K : PySem.W.Frag} {mg : Str → Option Value} {base : Heap} {k n : Nat} {x : Str} {m : List D → Option D} (F : FxD P w K mg base k x n [] [] m) : Fx P w K mg base k x n m := by
  obtain ⟨f, fd, ps, ds, h1, h2, h3, h4, h5⟩ := F.ok
  cases h5
  exact ⟨⟨f, fd, ps, h1, h2, h3, h4⟩, F.hm⟩
theorem kt_of {K : PySem.W.Frag} {F : Hp} {a : Addr} {n : Nat} {sl : Array (Option Value)} {its : List Value} {ds : List D} {vs : List V} (l : K.lookup a = some ⟨.type "tuple", none, .seq its.toArray n, sl⟩) (hz : its.length ≤ sizeLine) (hv : Vals vs its) (hr : Reps K F ds vs) : Rep K F (.kt ds) (.ref a) :=
  rep_kt.mpr ⟨a, vs, rfl, .inr ⟨_, its.toArray, n, l, rfl, rfl, by simpa using hz, by simpa using hv⟩, .inl ⟨_, l, rfl, rfl⟩, hr⟩
theorem lookup_step {tbl : Tab} {z k : Str} {o o' : Option D} (h : List.lookup z ((k, o) :: tbl) = some o') : (z = k ∧ o = o') ∨ List.lookup z tbl = some o' := by
  rw [List.lookup_cons] at h
  split at h
  · rename_i e
    exact .inl ⟨by simpa using e, Option.some.inj h⟩
  · exact .inr h
def clsBody : Stmt → List Stmt
  | .ClassDef (body := b) .. => b
  | _ => []
def yesOf (n : Str) : Str → Option Bool := fun x => if x = n then some true else none
theorem caught_mk {K : PySem.W.Frag} {mg : Str → Option Value} {c y : Addr} {n : Str} (hy : mg n = some (.ref y)) (E : ExcC K y) (h1 : PySem.W.subIn K (.ref c) (.type "BaseException") = some true) (h2 : PySem.W.hasDictIn K c = true) (h3 : PySem.W.typeIn K (.ref c) = some (.type "type")) (h4 : PySem.W.subIn K (.ref y) (.ref c) = some true) : Caught K mg (yesOf n) c y :=
  ⟨fun x b C hb hC => by
    unfold yesOf at hb
    split at hb
    · rename_i e
      subst e
      cases hb
      rw [hy] at hC
      cases hC
      exact ⟨PySem.W.exm_ref h1 h2 h3 h4, E, by unfold PySem.W.kitOne; rw [if_pos (by simp)]⟩
    · cases hb⟩
/-! objects -/
def dFld (f : Str) : D → Option D
  | .ob _ fs => fs.lookup f
  | _ => none
theorem repF_get {K : PySem.W.Frag} {H : Hp} {f : Str} : ∀ {fs : List (Str × D)} {vs : List (Str × V)} {d : D}, RepF K H fs vs → fs.lookup f = some d → ∃ v, vs.lookup f = some v ∧ Rep K H d v
  | [], _, _, _, h => by simp at h
  | (k, d0) :: fs, vs, d, r, h => by
    obtain ⟨v, q, rfl, h1, h2⟩ := repF_cons.mp r
    rw [List.lookup_cons] at h ⊢
    split at h
    · cases h
      exact ⟨v, rfl, h1⟩
    · exact repF_get h2 h
section
variable {X : Cx} {e : Expr} {te : TE} {fe : FE} {pos : Pos} {f : Str}
theorem sem_fld {K : PySem.W.Frag} (hf : f ∈ obF) (h : SemE K te fe) : SemE K (tFld K te f) (e1 (dFld f) fe) := fun F H σ ρ e re d hd Q q => by
  obtain ⟨a, h1, h3⟩ := Option.bind_eq_some_iff.mp hd
  refine h F H σ ρ e re a h1 _ fun x F1 H1 g1 r1 => ?_
  cases a <;> simp only [dFld, reduceCtorEq] at h3
  obtain ⟨p, C, dx, vs, rfl, hp, hC, hv⟩ := rep_ob.mp r1
  obtain ⟨v, e1, e2⟩ := repF_get hv h3
  exact ⟨p, C, dx, vs, v, rfl, g1.fh _ _ hp, hC.2.1, hC.2.2 f hf, e1, q v F1 H1 g1 e2⟩
theorem sx_fld (K : PySem.W.Frag) (h : SE X e te fe) (hf : f ∈ obF := by decide) (hb : attributeBase e f X.env (eval e X.env) = eval e X.env := by rfl) (hK : X.K = K := by rfl) : SE X (.Attribute e f pos) (tFld K te f) (e1 (dFld f) fe) := by
  subst hK
  exact ⟨pe_fld h.pe hb, sem_fld hf h.se⟩
/-- what an __init__ that stores its arguments by these names promises -/
def spOb (C : Addr) (ns : List Str) : Sp := fun vs H Q _ => ∃ x dx us, vs = .ref x :: us ∧ us.length = ns.length ∧ H x = some (.ins C dx []) ∧ Q .non (upd H x (.ins C dx (ns.zip us)))
def mkOb (n : Str) (ns : List Str) : List D → Option D := fun ds => if ds.length = ns.length then some (.ob n (ns.zip ds)) else none
theorem repF_zip {K : PySem.W.Frag} {H : Hp} : ∀ {ns : List Str} {ds : List D} {vs : List V}, Reps K H ds vs → ds.length = ns.length → RepF K H (ns.zip ds) (ns.zip vs)
  | [], ds, vs, r, h => by simp [repF_nil]
  | n :: ns, [], vs, r, h => by simp at h
  | n :: ns, d :: ds, vs, r, h => by
    obtain ⟨v, q, rfl, h1, h2⟩ := reps_cons.mp r
    exact repF_cons.mpr ⟨v, _, rfl, h1, repF_zip h2 (by simpa using h)⟩
/-- a class of data as it stands behind the top -/
structure ObT (P : Program) (w : World) (K : PySem.W.Frag) (mg : Str → Option Value) (base : Heap) (k : Nat) (n : Str) (ns : List Str) (C fI : Addr) (fdI : FuncData) : Prop where
  ob : ObC K n C
  mkC : Mk K C fI
  ini : FnOk P w K mg base CX0 k fI fdI ("self" :: ns) (spOb C ns)
  bn : Binds K fdI ("self" :: ns) []
  mgC : mg n = some (.ref C)
theorem sx_make (K : PySem.W.Frag) {P : Program} {w : World} {mg : Str → Option Value} {base : Heap} {k : Nat} {n : Str} {ns : List Str} {C fI : Addr} {fdI : FuncData} {es : List Expr} {t : TA} {f : E → Option (List D)} {p : Pos} (T : ObT P w K mg base k n ns C fI fdI) (hr : Room (k + 1) X.A) (hg : Gl X n) (ha : SA X (e :: es) t f) (hP : X.prog = P := by rfl) (hw : X.w = w := by rfl) (hK : X.K = K := by rfl) (hmg : X.mg = mg := by rfl) (hb : X.base = base := by rfl)
    (hdb : (n == ("__debug__" : Str)) = false := by decide) (he : starEach (e :: es) X.env = (false, eval e X.env) :: starEach es X.env := by rfl)
    (hpl : (backTo pos (starEach es X.env)).any (·.1) = false := by rfl) : SE X (.Call (.Name n p) (e :: es) [] pos) (tMake C (spOb C ns) [] E0 t) (eA (mkOb n ns) f) := by
  subst hP hw hK hmg hb
  refine ⟨pe_make T.mkC T.ini hr hg T.mgC T.bn .nil pass0 ha.pe hdb he hpl, fun F H σ ρ e r d hd Q q => ?_⟩
  obtain ⟨xs, e1, e2⟩ := Option.bind_eq_some_iff.mp hd
  refine ha.se F H σ ρ e r xs e1 _ fun vs F1 H1 g1 r1 => ?_
  intro x dx hx hdx hne
  unfold mkOb at e2
  split at e2
  · rename_i hl
    cases e2
    refine ⟨x, dx, vs, by rw [List.append_nil], by rw [← r1.len, hl], upd_same, rfl, ?_⟩
    rw [upd_upd]
    have fx : F1 x = none := g1.fh.free hx
    have fdx : F1 dx = none := g1.fh.free hdx
    have g2 : Gr F1 H1 F1 (upd H1 dx (.own x)) := .off g1.fh hdx
    have hx2 : upd H1 dx (HO.own x) x = none := by rw [upd_ne hne.symm]; exact hx
    have g3 : Gr F1 (upd H1 dx (.own x)) (upd F1 x (.ins C dx (ns.zip vs))) (upd (upd H1 dx (.own x)) x (.ins C dx (ns.zip vs))) := .new g2.fh hx2
    exact q _ _ _ ((g1.trans g2).trans g3) (rep_ob.mpr ⟨x, C, dx, _, rfl, upd_same, T.ob, repF_zip (r1.m (.new fx)) hl⟩)
  · cases e2
end
end Mi

/-! Mi21: an __init__ that stores its three arguments. -/
namespace Mi
open PySem PySem.Spec PyProof.Rows L2
theorem init3 {P : Program} {w : World} {K : PySem.W.Frag} {mg : Str → Option Value} {base : Heap} {f C : Addr} {fd : FuncData} {qual n a b c : Str} {st : Stmt} (Fn : Fun K "__init__" qual st f fd) (S : FnScope ["self", a, b, c] ["self", a, b, c] (defScope st)) (O : ObC K n C)
    (ha : a ∈ obF) (hb : b ∈ obF ∧ b ≠ a) (hc : c ∈ obF ∧ c ≠ a ∧ c ≠ b)
    (body : ∀ (cdv : Value) (A : Around) (outer : List Env) (s : Shared) (H : Hp) (W : XK), PSs (cxOf CX0 P w K mg base ["self", a, b, c] qual (defScope st) f cdv A outer s H W).nox (defBody st) (tSeq (sFld K (tVar 0) (tVar 1) a) (tSeq (sFld K (tVar 0) (tVar 2) b) (sFld K (tVar 0) (tVar 3) c)))) :
    FnOk P w K mg base CX0 1 f fd ["self", a, b, c] (spOb C [a, b, c]) := by
  refine Fn.ok S (fun vs H Q E h => ?_) (fun cdv A outer s H vs Q E hr h => ?_)
  · obtain ⟨x, dx, us, rfl, hl, _⟩ := h
    simpa using hl
  · obtain ⟨x, dx, us, rfl, hl, hx, k⟩ := h
    match us, hl with
    | [u, v, z], _ =>
      refine ⟨_, body cdv A outer s H E, ?_⟩
      refine ⟨_, rfl, _, rfl, x, C, dx, [], rfl, hx, O.2.1, O.2.2 a ha, (by show 0 < 1000; decide), _, rfl, _, rfl, x, C, dx, _, rfl, upd_same, O.2.1, O.2.2 b hb.1, (by show 1 < 1000; decide), _, rfl, _, rfl, x, C, dx, _, rfl, upd_same, O.2.1, O.2.2 c hc.1, ?_, ?_⟩
      · show (putF b v [(a, u)]).length < 1000
        simp [putF, Ne.symm hb.2]
      · rw [upd_upd, upd_upd]
        have e : putF c z (putF b v (putF a u [])) = [a, b, c].zip [u, v, z] := by
          simp [putF, Ne.symm hb.2, Ne.symm hc.2.1, Ne.symm hc.2.2]
        rw [e]
        exact k
end Mi

namespace K01
open PySem PySem.Spec PyProof.Rows L2 Mi
def topS (i : Nat) : Stmt := PySem.Challenge.pw_guesshush_k01_programs.main.body.getD i (.Pass ⟨0, 0, 0, 0⟩)
structure Bn (mg : Str → Option Value) : Prop where
  abs : mg "abs" = none
  all : mg "all" = none
  dict : mg "dict" = none
  enumerate : mg "enumerate" = none
  int : mg "int" = none
  len : mg "len" = none
  list : mg "list" = none
  range : mg "range" = none
  sorted : mg "sorted" = none
  str : mg "str" = none
  tuple : mg "tuple" = none
  «type» : mg "type" = none
  zip : mg "zip" = none
def tab_FORMS : Tab := [("ask", some (.kt [.str "r"])), ("mix", some (.kt [.str "r", .str "r", .str "r"])), ("load", some (.kt [.str "r", .str "A", .str "r"])), ("mask", some (.kt [.str "r", .str "A", .str "r"])), ("test", some (.kt [.str "r", .str "A", .str "target"])), ("put", some (.kt [.str "s", .str "r"])), ("get", some (.kt [.str "r", .str "s"])), ("fence", some (.kt [])), ("jump", some (.kt [.str "target"])), ("end", some (.kt [])), ("nothing", none)]
/-! ### _law_tape -/
abbrev s_law_tape : Stmt := topS 18
abbrev N_law_tape : List Str := ["script", "tape", "k", "value", "step"]
theorem sc_law_tape : FnScope N_law_tape ["script"] (defScope s_law_tape) := ⟨rfl, rfl, rfl, by decide +kernel, rfl, by decide +kernel, by decide +kernel⟩
noncomputable def g_law_tape : FS := sSeq (sAsgN 1 (fLst (aNil)))
  (sSeq (sFor (fRng1 (aCons (eA (g1 dLen) (aCons (eVar 0) (aNil))) (aNil))) (gN 2) (sSeq (sAsg 3 (eA (g1 dAbs) (aCons (eA (g1 dInt) (aCons (e2 dIx (eVar 0) (eVar 2)) (aNil))) (aNil))))
  (sIf (tB (e2 dGe (eVar 3) (e2 dPow (eC (.int 10)) (eC (.int 18))))) (sFor (fRng1 (aCons (eC (.int 60)) (aNil))) (gN 4) (sIf (tB (e2 dGt (eVar 3) (eC (.int 0)))) (sSeq (sApp 1 (e2 dMod (eVar 3) (eC (.int 1000))))
  (sAsg 3 (e2 dDiv (eVar 3) (eC (.int 1000))))) (sNext))) (sFor (fRng1 (aCons (eC (.int 4)) (aNil))) (gN 4) (sSeq (sAsg 3 (e2 dMod (e2 dAdd (e2 dAdd (e2 dMul (eVar 3) (eC (.int 48271))) (e2 dMul (eC (.int 69621)) (e2 dAdd (eVar 2) (eC (.int 1))))) (e2 dMul (eC (.int 7)) (eVar 4))) (eC (.int 2147483647))))
  (sSeq (sAsg 3 (e2 dMod (e2 dMul (eVar 3) (eC (.int 16807))) (eC (.int 2147483647))))
  (sApp 1 (e2 dMod (e2 dDiv (eVar 3) (eC (.int 1000))) (eC (.int 1000))))))))))
  (sFrz 1 (sRet (eVar 1))))
noncomputable def m_law_tape : List D → Option D := defM 5 1 g_law_tape
/-! ### _law_at -/
abbrev s_law_at : Stmt := topS 19
abbrev N_law_at : List Str := ["tape", "k"]
theorem sc_law_at : FnScope N_law_at ["tape", "k"] (defScope s_law_at) := ⟨rfl, rfl, rfl, by decide +kernel, rfl, by decide +kernel, by decide +kernel⟩
noncomputable def g_law_at : FS := sSeq (sIf (tB (e2 dLt (eVar 1) (eA (g1 dLen) (aCons (eVar 0) (aNil))))) (sRet (e2 dIx (eVar 0) (eVar 1))) (sNext))
  (sRet (eC (.int 0)))
noncomputable def m_law_at : List D → Option D := defM 2 2 g_law_at
/-! ### _law_row -/
abbrev s_law_row : Stmt := topS 20
abbrev N_law_row : List Str := ["number", "pick", "other", "many", "kind"]
theorem sc_law_row : FnScope N_law_row ["number", "pick", "other", "many"] (defScope s_law_row) := ⟨rfl, rfl, rfl, by decide +kernel, rfl, by decide +kernel, by decide +kernel⟩
noncomputable def g_law_row : FS := sSeq (sAsg 4 (e2 dIx (eO (fLst (aCons (eC (.str "ask")) (aCons (eC (.str "mix")) (aCons (eC (.str "load")) (aCons (eC (.str "load")) (aCons (eC (.str "mask")) (aCons (eC (.str "test")) (aCons (eC (.str "test")) (aCons (eC (.str "put")) (aCons (eC (.str "get")) (aCons (eC (.str "get")) (aCons (eC (.str "fence")) (aCons (eC (.str "jump")) (aCons (eC (.str "put")) (aCons (eC (.str "load")) (aNil))))))))))))))))) (e2 dMod (eVar 0) (eC (.int 14)))))
  (sSeq (sIf (tB (e2 dEq (eVar 4) (eC (.str "ask")))) (sRet (fTup (aCons (eVar 4) (aCons (e2 dMod (eVar 1) (eC (.int 4))) (aNil))))) (sNext))
  (sSeq (sIf (tB (e2 dEq (eVar 4) (eC (.str "mix")))) (sRet (fTup (aCons (eVar 4) (aCons (e2 dMod (eVar 1) (eC (.int 4))) (aCons (e2 dMod (e2 dDiv (eVar 1) (eC (.int 4))) (eC (.int 4))) (aCons (e2 dMod (eVar 2) (eC (.int 4))) (aNil))))))) (sNext))
  (sSeq (sIf (tB (e2 dIn (eVar 4) (fTup (aCons (eC (.str "load")) (aCons (eC (.str "mask")) (aNil)))))) (sRet (fTup (aCons (eVar 4) (aCons (e2 dMod (eVar 1) (eC (.int 4))) (aCons (e2 dMod (eVar 2) (eC (.int 2))) (aCons (e2 dMod (e2 dDiv (eVar 1) (eC (.int 4))) (eC (.int 4))) (aNil))))))) (sNext))
  (sSeq (sIf (tB (e2 dEq (eVar 4) (eC (.str "test")))) (sRet (fTup (aCons (eVar 4) (aCons (e2 dMod (eVar 1) (eC (.int 4))) (aCons (e2 dMod (eVar 2) (eC (.int 2))) (aCons (e2 dMod (e2 dAdd (e2 dDiv (eVar 1) (eC (.int 4))) (eVar 2)) (eVar 3)) (aNil))))))) (sNext))
  (sSeq (sIf (tB (e2 dEq (eVar 4) (eC (.str "put")))) (sRet (fTup (aCons (eVar 4) (aCons (e2 dMod (eVar 2) (eC (.int 2))) (aCons (e2 dMod (eVar 1) (eC (.int 4))) (aNil)))))) (sNext))
  (sSeq (sIf (tB (e2 dEq (eVar 4) (eC (.str "get")))) (sRet (fTup (aCons (eVar 4) (aCons (e2 dMod (eVar 1) (eC (.int 4))) (aCons (e2 dMod (eVar 2) (eC (.int 2))) (aNil)))))) (sNext))
  (sSeq (sIf (tB (e2 dEq (eVar 4) (eC (.str "jump")))) (sRet (fTup (aCons (eVar 4) (aCons (e2 dMod (e2 dAdd (eVar 1) (eVar 2)) (eVar 3)) (aNil))))) (sNext))
  (sRet (fTup (aCons (eVar 4) (aNil)))))))))))
noncomputable def m_law_row : List D → Option D := defM 5 4 g_law_row
/-! ### _law_program -/
abbrev s_law_program : Stmt := topS 21
abbrev N_law_program : List Str := ["tape", "place", "many", "rows", "k", "secret", "r"]
theorem sc_law_program : FnScope N_law_program ["tape", "place"] (defScope s_law_program) := ⟨rfl, rfl, rfl, by decide +kernel, rfl, by decide +kernel, by decide +kernel⟩
noncomputable def g_law_program : FS := sSeq (sAsg 2 (e2 dAdd (eC (.int 2)) (e2 dMod (eA m_law_at (aCons (eVar 0) (aCons (eVar 1) (aNil)))) (eC (.int 10)))))
  (sSeq (sAsgN 3 (fLst (aNil)))
  (sSeq (sFor (fRng1 (aCons (e2 dSub (eVar 2) (eC (.int 1))) (aNil))) (gN 4) (sApp 3 (eA m_law_row (aCons (eA m_law_at (aCons (eVar 0) (aCons (e2 dAdd (e2 dAdd (eVar 1) (e2 dMul (eC (.int 3)) (eVar 4))) (eC (.int 1))) (aNil)))) (aCons (eA m_law_at (aCons (eVar 0) (aCons (e2 dAdd (e2 dAdd (eVar 1) (e2 dMul (eC (.int 3)) (eVar 4))) (eC (.int 2))) (aNil)))) (aCons (eA m_law_at (aCons (eVar 0) (aCons (e2 dAdd (e2 dAdd (eVar 1) (e2 dMul (eC (.int 3)) (eVar 4))) (eC (.int 3))) (aNil)))) (aCons (eVar 2) (aNil))))))))
  (sSeq (sApp 3 (e2 dIx (eO (fLst (aCons (fTup (aCons (eC (.str "end")) (aNil))) (aCons (fTup (aCons (eC (.str "jump")) (aCons (e2 dMod (eA m_law_at (aCons (eVar 0) (aCons (eVar 1) (aNil)))) (eVar 2)) (aNil)))) (aCons (fTup (aCons (eC (.str "end")) (aNil))) (aNil)))))) (e2 dMod (eA m_law_at (aCons (eVar 0) (aCons (e2 dAdd (eVar 1) (eC (.int 1))) (aNil)))) (eC (.int 3)))))
  (sSeq (sAsg 5 (eA (g1 dTuple) (aCons (eO (fLc (fRng1 (aCons (eC (.int 4)) (aNil))) (gN 6) (tB (e2 dEq (e2 dMod (e2 dDiv (eA m_law_at (aCons (eVar 0) (aCons (e2 dAdd (eVar 1) (eC (.int 2))) (aNil)))) (e2 dAdd (eVar 6) (eC (.int 1)))) (eC (.int 3))) (eC (.int 0)))) (eVar 6) ([("r", 6)].map (·.2)))) (aNil))))
  (sFrz 3 (sRet (eO (fDisp (pCons "secret" (eVar 5) (pCons "rows" (eA (g1 dTuple) (aCons (eVar 3) (aNil))) (pNil)))))))))))
noncomputable def m_law_program : List D → Option D := defM 7 2 g_law_program
/-! ### fenced_target -/
abbrev s_fenced_target : Stmt := topS 14
abbrev N_fenced_target : List Str := ["target", "fenced", "place"]
theorem sc_fenced_target : FnScope N_fenced_target ["target", "fenced"] (defScope s_fenced_target) := ⟨rfl, rfl, rfl, by decide +kernel, rfl, by decide +kernel, by decide +kernel⟩
noncomputable def g_fenced_target : FS := sRet (e2 dAdd (eVar 0) (eA (g1 dLen) (aCons (eO (fLc (fSeq (eVar 1)) (gN 2) (tB (e2 dLt (eVar 2) (eVar 0))) (eVar 2) ([("place", 2)].map (·.2)))) (aNil))))
noncomputable def m_fenced_target : List D → Option D := defM 3 2 g_fenced_target
/-! ### fenced_row -/
abbrev s_fenced_row : Stmt := topS 15
abbrev N_fenced_row : List Str := ["row", "fenced"]
theorem sc_fenced_row : FnScope N_fenced_row ["row", "fenced"] (defScope s_fenced_row) := ⟨rfl, rfl, rfl, by decide +kernel, rfl, by decide +kernel, by decide +kernel⟩
noncomputable def g_fenced_row : FS := sSeq (sIf (tB (e2 dEq (e2 dIx (eVar 0) (eC (.int 0))) (eC (.str "test")))) (sRet (fTup (aCons (eC (.str "test")) (aCons (e2 dIx (eVar 0) (eC (.int 1))) (aCons (e2 dIx (eVar 0) (eC (.int 2))) (aCons (eA m_fenced_target (aCons (e2 dIx (eVar 0) (eC (.int 3))) (aCons (eVar 1) (aNil)))) (aNil))))))) (sNext))
  (sSeq (sIf (tB (e2 dEq (e2 dIx (eVar 0) (eC (.int 0))) (eC (.str "jump")))) (sRet (fTup (aCons (eC (.str "jump")) (aCons (eA m_fenced_target (aCons (e2 dIx (eVar 0) (eC (.int 1))) (aCons (eVar 1) (aNil)))) (aNil))))) (sNext))
  (sRet (eVar 0)))
noncomputable def m_fenced_row : List D → Option D := defM 2 2 g_fenced_row
/-! ### with_fences -/
abbrev s_with_fences : Stmt := topS 16
abbrev N_with_fences : List Str := ["program", "places", "rows", "fenced", "made", "place", "row"]
theorem sc_with_fences : FnScope N_with_fences ["program", "places"] (defScope s_with_fences) := ⟨rfl, rfl, rfl, by decide +kernel, rfl, by decide +kernel, by decide +kernel⟩
noncomputable def g_with_fences : FS := sSeq (sAsg 2 (e2 dIx (eVar 0) (eC (.str "rows"))))
  (sSeq (sAsg 3 (eO (fLc (fRng1 (aCons (eA (g1 dLen) (aCons (eVar 2) (aNil))) (aNil))) (gN 5) (tB (e2 dIn (eVar 5) (eVar 1))) (eVar 5) ([("place", 5)].map (·.2)))))
  (sSeq (sAsgN 4 (fLst (aNil)))
  (sSeq (sFor (fEnum (aCons (eVar 2) (aNil))) (gT (gsC (gN 5) (gsC (gN 6) (gsN)))) (sSeq (sIf (tB (e2 dIn (eVar 5) (eVar 3))) (sApp 4 (fTup (aCons (eC (.str "fence")) (aNil)))) (sNext))
  (sApp 4 (eA m_fenced_row (aCons (eVar 6) (aCons (eVar 3) (aNil)))))))
  (sFrz 4 (sRet (eO (fDisp (pCons "secret" (e2 dIx (eVar 0) (eC (.str "secret"))) (pCons "rows" (eA (g1 dTuple) (aCons (eVar 4) (aNil))) (pNil))))))))))
noncomputable def m_with_fences : List D → Option D := defM 7 2 g_with_fences
/-! ### has_keys -/
abbrev s_has_keys : Stmt := topS 12
abbrev N_has_keys : List Str := ["value", "names", "key"]
theorem sc_has_keys : FnScope N_has_keys ["value", "names"] (defScope s_has_keys) := ⟨rfl, rfl, rfl, by decide +kernel, rfl, by decide +kernel, by decide +kernel⟩
noncomputable def g_has_keys : FS := sSeq (sIf (tB (e2 dIsn (eA (g1 dType) (aCons (eVar 0) (aNil))) (eC (.ty "dict")))) (sRet (eC (.bl false))) (sNext))
  (sRet (fAndV (eA (g1 dAll) (aCons (eO (fKeys 0 (gN 2) (e2 dIs (eA (g1 dType) (aCons (eVar 2) (aNil))) (eC (.ty "str"))) ([("key", 2)].map (·.2)))) (aNil))) (e2 dEq (eO (eNA (gN1 dSortedD) (aCons (eVar 0) (aNil)))) (eVar 1))))
noncomputable def m_has_keys : List D → Option D := defM 3 2 g_has_keys
/-! ### is_natural -/
abbrev s_is_natural : Stmt := topS 6
abbrev N_is_natural : List Str := ["value"]
theorem sc_is_natural : FnScope N_is_natural ["value"] (defScope s_is_natural) := ⟨rfl, rfl, rfl, by decide +kernel, rfl, by decide +kernel, by decide +kernel⟩
noncomputable def g_is_natural : FS := sRet (fAndV (e2 dIs (eA (g1 dType) (aCons (eVar 0) (aNil))) (eC (.ty "int"))) (e2 dGe (eVar 0) (eC (.int 0))))
noncomputable def m_is_natural : List D → Option D := defM 1 1 g_is_natural
/-! ### is_number -/
abbrev s_is_number : Stmt := topS 7
abbrev N_is_number : List Str := ["value", "bound"]
theorem sc_is_number : FnScope N_is_number ["value", "bound"] (defScope s_is_number) := ⟨rfl, rfl, rfl, by decide +kernel, rfl, by decide +kernel, by decide +kernel⟩
noncomputable def g_is_number : FS := sRet (fAndV (eA m_is_natural (aCons (eVar 0) (aNil))) (e2 dLt (eVar 0) (eVar 1)))
noncomputable def m_is_number : List D → Option D := defM 2 2 g_is_number
/-! ### is_ascending -/
abbrev s_is_ascending : Stmt := topS 8
abbrev N_is_ascending : List Str := ["value", "bound", "number", "low", "high"]
theorem sc_is_ascending : FnScope N_is_ascending ["value", "bound"] (defScope s_is_ascending) := ⟨rfl, rfl, rfl, by decide +kernel, rfl, by decide +kernel, by decide +kernel⟩
noncomputable def g_is_ascending : FS := sSeq (sIf (tB (e2 dIsn (eA (g1 dType) (aCons (eVar 0) (aNil))) (eC (.ty "tuple")))) (sRet (eC (.bl false))) (sNext))
  (sSeq (sIf (fNot (tB (eA (g1 dAll) (aCons (eO (fLc (fSeq (eVar 0)) (gN 2) (fYes) (eA m_is_number (aCons (eVar 2) (aCons (eVar 1) (aNil)))) ([("number", 2)].map (·.2)))) (aNil))))) (sRet (eC (.bl false))) (sNext))
  (sRet (eA (g1 dAll) (aCons (eO (fLc (fZip (aCons (eVar 0) (aCons (eSl (eVar 0) (fPart (eC (.int 1))) (fNoP)) (aNil)))) (gT (gsC (gN 3) (gsC (gN 4) gsN))) (fYes) (e2 dLt (eVar 3) (eVar 4)) ([("low", 3), ("high", 4)].map (·.2)))) (aNil)))))
noncomputable def m_is_ascending : List D → Option D := defM 5 2 g_is_ascending
/-! ### bound_of -/
abbrev s_bound_of : Stmt := topS 9
abbrev N_bound_of : List Str := ["kind", "places", "bounds"]
theorem sc_bound_of : FnScope N_bound_of ["kind", "places"] (defScope s_bound_of) := ⟨rfl, rfl, rfl, by decide +kernel, rfl, by decide +kernel, by decide +kernel⟩
noncomputable def g_bound_of : FS := sSeq (sAsg 2 (eO (fDisp (pCons "r" (eC (.int 4)) (pCons "s" (eC (.int 2)) (pCons "A" (eC (.int 2)) (pCons "target" (eVar 1) (pNil))))))))
  (sRet (e2 dIx (eVar 2) (eVar 0)))
noncomputable def m_bound_of : List D → Option D := defM 3 2 g_bound_of
/-! ### is_row -/
abbrev s_is_row : Stmt := topS 10
abbrev N_is_row : List Str := ["value", "places", "word", "kinds", "part", "kind"]
theorem sc_is_row : FnScope N_is_row ["value", "places"] (defScope s_is_row) := ⟨rfl, rfl, rfl, by decide +kernel, rfl, by decide +kernel, by decide +kernel⟩
noncomputable def g_is_row : FS := sSeq (sIf (fOr (tB (e2 dIsn (eA (g1 dType) (aCons (eVar 0) (aNil))) (eC (.ty "tuple")))) (tB (e2 dEq (eA (g1 dLen) (aCons (eVar 0) (aNil))) (eC (.int 0))))) (sRet (eC (.bl false))) (sNext))
  (sSeq (sAsg 2 (e2 dIx (eVar 0) (eC (.int 0))))
  (sSeq (sIf (fOr (tB (e2 dIsn (eA (g1 dType) (aCons (eVar 2) (aNil))) (eC (.ty "str")))) (tB (e1 (kNin tab_FORMS) (eVar 2)))) (sRet (eC (.bl false))) (sNext))
  (sSeq (sAsg 3 (e1 (kIx tab_FORMS) (eVar 2)))
  (sSeq (sIf (tB (e2 dNeP (eA (g1 dLen) (aCons (eVar 0) (aNil))) (e2 dAdd (eA (g1 dLen) (aCons (eVar 3) (aNil))) (eC (.int 1))))) (sRet (eC (.bl false))) (sNext))
  (sRet (eA (g1 dAll) (aCons (eO (fLc (fZip (aCons (eSl (eVar 0) (fPart (eC (.int 1))) (fNoP)) (aCons (eVar 3) (aNil)))) (gT (gsC (gN 4) (gsC (gN 5) gsN))) (fYes) (eA m_is_number (aCons (eVar 4) (aCons (eA m_bound_of (aCons (eVar 5) (aCons (eVar 1) (aNil)))) (aNil)))) ([("part", 4), ("kind", 5)].map (·.2)))) (aNil))))))))
noncomputable def m_is_row : List D → Option D := defM 6 2 g_is_row
/-! ### are_rows -/
abbrev s_are_rows : Stmt := topS 11
abbrev N_are_rows : List Str := ["value", "row"]
theorem sc_are_rows : FnScope N_are_rows ["value"] (defScope s_are_rows) := ⟨rfl, rfl, rfl, by decide +kernel, rfl, by decide +kernel, by decide +kernel⟩
noncomputable def g_are_rows : FS := sSeq (sIf (fOr (tB (e2 dIsn (eA (g1 dType) (aCons (eVar 0) (aNil))) (eC (.ty "tuple")))) (fNot (tB (fChain dLe dLe (eC (.int 1)) (eA (g1 dLen) (aCons (eVar 0) (aNil))) (eC (.int 32)))))) (sRet (eC (.bl false))) (sNext))
  (sSeq (sIf (fNot (tB (eA (g1 dAll) (aCons (eO (fLc (fSeq (eVar 0)) (gN 1) (fYes) (eA m_is_row (aCons (eVar 1) (aCons (eA (g1 dLen) (aCons (eVar 0) (aNil))) (aNil)))) ([("row", 1)].map (·.2)))) (aNil))))) (sRet (eC (.bl false))) (sNext))
  (sRet (e2 dIn (e2 dIx (e2 dIx (eVar 0) (e1 dNeg (eC (.int 1)))) (eC (.int 0))) (fTup (aCons (eC (.str "jump")) (aCons (eC (.str "end")) (aNil)))))))
noncomputable def m_are_rows : List D → Option D := defM 2 1 g_are_rows
/-! ### is_program -/
abbrev s_is_program : Stmt := topS 13
abbrev N_is_program : List Str := ["value"]
theorem sc_is_program : FnScope N_is_program ["value"] (defScope s_is_program) := ⟨rfl, rfl, rfl, by decide +kernel, rfl, by decide +kernel, by decide +kernel⟩
noncomputable def g_is_program : FS := sSeq (sIf (fNot (tB (eA m_has_keys (aCons (eVar 0) (aCons (eO (fLst (aCons (eC (.str "rows")) (aCons (eC (.str "secret")) (aNil))))) (aNil)))))) (sRet (eC (.bl false))) (sNext))
  (sRet (fAndV (eA m_is_ascending (aCons (e2 dIx (eVar 0) (eC (.str "secret"))) (aCons (eC (.int 4)) (aNil)))) (eA m_are_rows (aCons (e2 dIx (eVar 0) (eC (.str "rows"))) (aNil)))))
noncomputable def m_is_program : List D → Option D := defM 1 1 g_is_program
/-! ### _law_made -/
abbrev s_law_made : Stmt := topS 24
abbrev N_law_made : List Str := ["secret", "rows"]
theorem sc_law_made : FnScope N_law_made ["secret", "rows"] (defScope s_law_made) := ⟨rfl, rfl, rfl, by decide +kernel, rfl, by decide +kernel, by decide +kernel⟩
noncomputable def g_law_made : FS := sRet (eO (fDisp (pCons "secret" (eVar 0) (pCons "rows" (eVar 1) (pNil)))))
noncomputable def m_law_made : List D → Option D := defM 2 2 g_law_made
/-! ### _law_spoiled -/
abbrev s_law_spoiled : Stmt := topS 25
abbrev N_law_spoiled : List Str := ["program", "kind", "at", "odd", "row", "bad", "secret", "rows"]
theorem sc_law_spoiled : FnScope N_law_spoiled ["program", "kind", "at", "odd"] (defScope s_law_spoiled) := ⟨rfl, rfl, rfl, by decide +kernel, rfl, by decide +kernel, by decide +kernel⟩
noncomputable def g_law_spoiled : FS := sSeq (sPar 6 7 (aCons (e2 dIx (eVar 0) (eC (.str "secret"))) (aCons (e2 dIx (eVar 0) (eC (.str "rows"))) (aNil))))
  (sSeq (sAsg 4 (e2 dIx (eVar 7) (e2 dMod (eVar 2) (eA (g1 dLen) (aCons (eVar 7) (aNil))))))
  (sSeq (sIf (tB (e2 dEq (eVar 1) (eC (.int 0)))) (sRet (eA m_law_made (aCons (eVar 6) (aCons (e2 dAdd (e2 dAdd (eSl (eVar 7) (fNoP) (fPart (e2 dMod (eVar 2) (eA (g1 dLen) (aCons (eVar 7) (aNil)))))) (fTup (aCons (e2 dAdd (eVar 4) (fTup (aCons (eC (.int 0)) (aNil)))) (aNil)))) (eSl (eVar 7) (fPart (e2 dAdd (e2 dMod (eVar 2) (eA (g1 dLen) (aCons (eVar 7) (aNil)))) (eC (.int 1)))) (fNoP))) (aNil))))) (sNext))
  (sSeq (sIf (tB (e2 dEq (eVar 1) (eC (.int 1)))) (sRet (eA m_law_made (aCons (eVar 6) (aCons (e2 dAdd (eVar 7) (fTup (aCons (fTup (aCons (eC (.str "ask")) (aCons (eC (.int 0)) (aNil)))) (aNil)))) (aNil))))) (sNext))
  (sSeq (sIf (tB (e2 dEq (eVar 1) (eC (.int 2)))) (sRet (eA m_law_made (aCons (eVar 6) (aCons (e2 dAdd (e2 dMul (fTup (aCons (fTup (aCons (eC (.str "fence")) (aNil))) (aNil))) (eC (.int 32))) (eVar 7)) (aNil))))) (sNext))
  (sSeq (sIf (tB (e2 dEq (eVar 1) (eC (.int 3)))) (sRet (eA m_law_made (aCons (eVar 6) (aCons (eO (eNA (gN1 dList) (aCons (eVar 7) (aNil)))) (aNil))))) (sNext))
  (sSeq (sIf (tB (e2 dEq (eVar 1) (eC (.int 4)))) (sRet (eA m_law_made (aCons (fTup (aCons (eC (.int 2)) (aCons (eC (.int 1)) (aNil)))) (aCons (eVar 7) (aNil))))) (sNext))
  (sSeq (sIf (tB (e2 dEq (eVar 1) (eC (.int 5)))) (sRet (eA m_law_made (aCons (fTup (aCons (eC (.int 4)) (aNil))) (aCons (eVar 7) (aNil))))) (sNext))
  (sSeq (sIf (tB (e2 dEq (eVar 1) (eC (.int 6)))) (sRet (eA m_law_made (aCons (eVar 6) (aCons (fTup (aNil)) (aNil))))) (sNext))
  (sSeq (sIf (tB (e2 dEq (eVar 1) (eC (.int 7)))) (sRet (e2 dIx (eO (fLst (aCons (fTup (aCons (eVar 6) (aCons (eVar 7) (aNil)))) (aCons (eO (fDisp (pCons "secret" (eVar 6) (pNil)))) (aCons (eO (fDisp (pCons "secret" (eVar 6) (pCons "rows" (eVar 7) (pCons "more" (eC (.int 1)) (pNil)))))) (aNil)))))) (e2 dMod (eVar 2) (eC (.int 3))))) (sNext))
  (sSeq (sAsg 5 (eO (fLst (aCons (fTup (aCons (eC (.str "ask")) (aCons (eVar 3) (aNil)))) (aCons (fTup (aCons (eC (.str "mix")) (aCons (eC (.int 0)) (aCons (eC (.int 0)) (aCons (eVar 3) (aNil)))))) (aCons (fTup (aCons (eC (.str "load")) (aCons (eC (.int 0)) (aCons (eC (.int 2)) (aCons (eC (.int 0)) (aNil)))))) (aCons (fTup (aCons (eC (.str "load")) (aCons (eC (.int 0)) (aCons (eC (.int 0)) (aCons (eVar 3) (aNil)))))) (aCons (fTup (aCons (eC (.str "mask")) (aCons (eC (.int 0)) (aCons (e1 dNeg (eC (.int 1))) (aCons (eC (.int 0)) (aNil)))))) (aCons (fTup (aCons (eC (.str "test")) (aCons (eC (.int 0)) (aCons (eC (.int 0)) (aCons (e2 dAdd (eA (g1 dLen) (aCons (eVar 7) (aNil))) (eC (.int 1))) (aNil)))))) (aNil))))))))))
  (sSeq (sAsg 5 (eO (eN2 dCat (eVar 5) (eO (fLst (aCons (fTup (aCons (eC (.str "put")) (aCons (eC (.int 2)) (aCons (eC (.int 0)) (aNil))))) (aCons (fTup (aCons (eC (.str "get")) (aCons (eC (.int 0)) (aCons (eVar 3) (aNil))))) (aCons (fTup (aCons (eC (.str "jump")) (aCons (e1 dNeg (eC (.int 1))) (aNil)))) (aCons (fTup (aCons (eC (.str "nothing")) (aNil))) (aCons (fTup (aCons (eC (.str "ask")) (aNil))) (aCons (eO (fLst (aCons (eC (.str "ask")) (aCons (eC (.int 0)) (aNil))))) (aCons (eC (.str "ask")) (aCons (fTup (aNil)) (aCons (fTup (aCons (eC (.str "test")) (aCons (eVar 3) (aCons (eC (.int 0)) (aCons (eC (.int 0)) (aNil)))))) (aNil)))))))))))))))
  (sRet (eA m_law_made (aCons (eVar 6) (aCons (e2 dAdd (fTup (aCons (e2 dIx (eVar 5) (e2 dMod (eVar 2) (eC (.int 15)))) (aNil))) (eVar 7)) (aNil))))))))))))))))
noncomputable def m_law_spoiled : List D → Option D := defM 8 4 g_law_spoiled
/-! ### _law_moved -/
abbrev s_law_moved : Stmt := topS 26
abbrev N_law_moved : List Str := ["place", "places", "one"]
theorem sc_law_moved : FnScope N_law_moved ["place", "places"] (defScope s_law_moved) := ⟨rfl, rfl, rfl, by decide +kernel, rfl, by decide +kernel, by decide +kernel⟩
noncomputable def g_law_moved : FS := sRet (e2 dAdd (eVar 0) (eA (g1 dLen) (aCons (eO (fLc (fSeq (eVar 1)) (gN 2) (tB (e2 dLt (eVar 2) (eVar 0))) (eVar 2) ([("one", 2)].map (·.2)))) (aNil))))
noncomputable def m_law_moved : List D → Option D := defM 3 2 g_law_moved
/-! ### _law_fenced -/
abbrev s_law_fenced : Stmt := topS 27
abbrev N_law_fenced : List Str := ["program", "places", "rows", "k", "row"]
theorem sc_law_fenced : FnScope N_law_fenced ["program", "places"] (defScope s_law_fenced) := ⟨rfl, rfl, rfl, by decide +kernel, rfl, by decide +kernel, by decide +kernel⟩
noncomputable def g_law_fenced : FS := sSeq (sAsgN 2 (fLst (aNil)))
  (sSeq (sFor (fRng1 (aCons (eA (g1 dLen) (aCons (e2 dIx (eVar 0) (eC (.str "rows"))) (aNil))) (aNil))) (gN 3) (sSeq (sIf (tB (e2 dIn (eVar 3) (eVar 1))) (sApp 2 (fTup (aCons (eC (.str "fence")) (aNil)))) (sNext))
  (sSeq (sAsg 4 (e2 dIx (e2 dIx (eVar 0) (eC (.str "rows"))) (eVar 3)))
  (sSeq (sIf (tB (e2 dIn (e2 dIx (eVar 4) (eC (.int 0))) (fTup (aCons (eC (.str "test")) (aCons (eC (.str "jump")) (aNil)))))) (sAsg 4 (e2 dAdd (eSl (eVar 4) (fNoP) (fPart (e1 dNeg (eC (.int 1))))) (fTup (aCons (eA m_law_moved (aCons (e2 dIx (eVar 4) (e1 dNeg (eC (.int 1)))) (aCons (eVar 1) (aNil)))) (aNil))))) (sNext))
  (sApp 2 (eVar 4))))))
  (sFrz 2 (sRet (eA m_law_made (aCons (e2 dIx (eVar 0) (eC (.str "secret"))) (aCons (eA (g1 dTuple) (aCons (eVar 2) (aNil))) (aNil)))))))
noncomputable def m_law_fenced : List D → Option D := defM 5 2 g_law_fenced
/-! ### law -/
abbrev s_law : Stmt := topS 28
abbrev N_law : List Str := ["script", "tape", "program", "odd", "k", "places", "passed", "told", "spoiled"]
theorem sc_law : FnScope N_law ["script"] (defScope s_law) := ⟨rfl, rfl, rfl, by decide +kernel, rfl, by decide +kernel, by decide +kernel⟩
noncomputable def g_law : FS := sSeq (sIf (tB (e2 dNeP (fTup (aCons (eC (.int 4)) (aCons (eC (.int 2)) (aCons (eC (.int 2)) (aCons (eC (.int 32)) (aNil)))))) (fTup (aCons (eC (.int 4)) (aCons (eC (.int 2)) (aCons (eC (.int 2)) (aCons (eC (.int 32)) (aNil)))))))) (sRet (eC (.bl false))) (sNext))
  (sSeq (sAsg 1 (eA m_law_tape (aCons (eVar 0) (aNil))))
  (sSeq (sAsg 2 (eA m_law_program (aCons (eVar 1) (aCons (eC (.int 4)) (aNil)))))
  (sSeq (sIf (tB (e2 dIsn (eA m_is_program (aCons (eVar 2) (aNil))) (eC (.bl true)))) (sRet (eC (.bl false))) (sNext))
  (sSeq (sAsg 3 (e2 dIx (eO (fLst (aCons (eC (.int 4)) (aCons (e1 dNeg (eC (.int 1))) (aCons (eC (.bl true)) (aCons (eC .non) (aCons (eC (.str "0")) (aCons (eC (.int 9)) (aNil))))))))) (e2 dMod (eA m_law_at (aCons (eVar 1) (aCons (eC (.int 2)) (aNil)))) (eC (.int 6)))))
  (sSeq (sFor (fRng1 (aCons (eC (.int 4)) (aNil))) (gN 4) (sSeq (sAsg 8 (eA m_law_spoiled (aCons (eVar 2) (aCons (e2 dMod (e2 dAdd (eA m_law_at (aCons (eVar 1) (aCons (eC (.int 0)) (aNil)))) (e2 dMul (eC (.int 5)) (eVar 4))) (eC (.int 14))) (aCons (e2 dAdd (eA m_law_at (aCons (eVar 1) (aCons (eC (.int 1)) (aNil)))) (eVar 4)) (aCons (eVar 3) (aNil)))))))
  (sIf (tB (e2 dIsn (eA m_is_program (aCons (eVar 8) (aNil))) (eC (.bl false)))) (sRet (eC (.bl false))) (sNext))))
  (sSeq (sAsg 5 (eO (fLc (fRng1 (aCons (eA (g1 dLen) (aCons (e2 dIx (eVar 2) (eC (.str "rows"))) (aNil))) (aNil))) (gN 4) (tB (e2 dEq (e2 dMod (e2 dDiv (eA m_law_at (aCons (eVar 1) (aCons (eC (.int 3)) (aNil)))) (e2 dAdd (eVar 4) (eC (.int 1)))) (eC (.int 3))) (eC (.int 0)))) (eVar 4) ([("k", 4)].map (·.2)))))
  (sSeq (sAsg 6 (eO (eN1 dRev (eVar 5))))
  (sSeq (sAsg 7 (eA m_with_fences (aCons (eVar 2) (aCons (eVar 6) (aNil)))))
  (sRet (fAndV (e2 dEq (eVar 7) (eA m_law_fenced (aCons (eVar 2) (aCons (eVar 5) (aNil))))) (fAndV (e2 dEq (eVar 6) (eO (eN1 dRev (eVar 5)))) (e2 dIs (eA m_is_program (aCons (eC .non) (aNil))) (eC (.bl false))))))))))))))
noncomputable def m_law : List D → Option D := defM 9 1 g_law
section
variable {P : Program} {w : World} {K : PySem.W.Frag} {mg : Str → Option Value} {base : Heap} {f : Addr} {fd : FuncData}
theorem fx_law_tape (Fn : Fun K "_law_tape" "_law_tape" s_law_tape f fd) (hmg : mg "_law_tape" = some (.ref f)) (hb : Binds K fd ["script"] []) (B : Bn mg) : Fx P w K mg base 1 "_law_tape" 1 m_law_tape :=
  fx_mkL (g := g_law_tape) Fn sc_law_tape hmg hb (by decide) rfl rfl fun cdv A outer s H W hr => (sss_cons (sp_setN sc_law_tape.nd rfl (by first | exact .inl rfl | exact .inr rfl) (sn_lst sa_nil))
    (sss_cons (sp_for PassesOwn.never rfl (si_r1 (by rfl) B.range (sa_cons (se_callB (cl_len K) lf_len (by rfl) B.len PySem.boot_len (sa_cons (se_v 0) sa_nil)) sa_nil)) (sg_n sc_law_tape.nd rfl (by first | exact .inl rfl | exact .inr rfl)) (sss_cons (sp_set sc_law_tape.nd rfl (by first | exact .inl rfl | exact .inr rfl) (se_callB call_abs lf_abs (by rfl) B.abs mb_abs (sa_cons (se_callTy call_int1 lf_int (by rfl) B.int mb_int (sa_cons (sx_ix K (hu_of hr) (se_v 0) (se_v 2)) sa_nil)) sa_nil)))
    (sss_one (sp_if (st_cmp op_ge lf_ge (se_v 3) (se_bin op_pow lf_pow se_int se_int)) (sss_one (sp_for PassesOwn.never rfl (si_r1 (by rfl) B.range (sa_cons se_int sa_nil)) (sg_n sc_law_tape.nd rfl (by first | exact .inl rfl | exact .inr rfl)) (sss_one (sp_if (st_cmp op_gt lf_gt (se_v 3) se_int) (sss_cons (sp_app (pv 1) (se_bin op_mod lf_mod (se_v 3) se_int))
    (sss_one (sp_set sc_law_tape.nd rfl (by first | exact .inl rfl | exact .inr rfl) (se_bin op_fdiv lf_div (se_v 3) se_int)))) sss_nil)))) (sss_one (sp_for PassesOwn.never rfl (si_r1 (by rfl) B.range (sa_cons se_int sa_nil)) (sg_n sc_law_tape.nd rfl (by first | exact .inl rfl | exact .inr rfl)) (sss_cons (sp_set sc_law_tape.nd rfl (by first | exact .inl rfl | exact .inr rfl) (se_bin op_mod lf_mod (se_bin (op_add' K) lf_add (se_bin (op_add' K) lf_add (se_bin (op_mul' K) lf_mul (se_v 3) se_int) (se_bin (op_mul' K) lf_mul se_int (se_bin (op_add' K) lf_add (se_v 2) se_int))) (se_bin (op_mul' K) lf_mul se_int (se_v 4))) se_int))
    (sss_cons (sp_set sc_law_tape.nd rfl (by first | exact .inl rfl | exact .inr rfl) (se_bin op_mod lf_mod (se_bin (op_mul' K) lf_mul (se_v 3) se_int) se_int))
    (sss_one (sp_app (pv 1) (se_bin op_mod lf_mod (se_bin op_fdiv lf_div (se_v 3) se_int) se_int)))))))))))
    (sss_one (sp_frz 1 (sp_ret (se_v 1))))))
theorem fx_law_at (Fn : Fun K "_law_at" "_law_at" s_law_at f fd) (hmg : mg "_law_at" = some (.ref f)) (hb : Binds K fd ["tape", "k"] []) (B : Bn mg) : Fx P w K mg base 1 "_law_at" 2 m_law_at :=
  fx_mkL (g := g_law_at) Fn sc_law_at hmg hb (by decide) rfl rfl fun cdv A outer s H W hr => (sss_cons (sp_if (st_cmp op_lt lf_lt (se_v 1) (se_callB (cl_len K) lf_len (by rfl) B.len PySem.boot_len (sa_cons (se_v 0) sa_nil))) (sss_one (sp_ret (sx_ix K (hu_of hr) (se_v 0) (se_v 1)))) sss_nil)
    (sss_one (sp_ret se_int)))
theorem fx_law_row (Fn : Fun K "_law_row" "_law_row" s_law_row f fd) (hmg : mg "_law_row" = some (.ref f)) (hb : Binds K fd ["number", "pick", "other", "many"] []) (B : Bn mg) : Fx P w K mg base 1 "_law_row" 4 m_law_row :=
  fx_mkL (g := g_law_row) Fn sc_law_row hmg hb (by decide) rfl rfl fun cdv A outer s H W hr => (sss_cons (sp_set sc_law_row.nd rfl (by first | exact .inl rfl | exact .inr rfl) (sx_ix K (hu_of hr) (sn_e (sn_lst (sa_cons se_str (sa_cons se_str (sa_cons se_str (sa_cons se_str (sa_cons se_str (sa_cons se_str (sa_cons se_str (sa_cons se_str (sa_cons se_str (sa_cons se_str (sa_cons se_str (sa_cons se_str (sa_cons se_str (sa_cons se_str sa_nil)))))))))))))))) (se_bin op_mod lf_mod (se_v 0) se_int)))
    (sss_cons (sp_if (st_cmp (op_eq' K hr.units) lf_eq (se_v 4) se_str) (sss_one (sp_ret (se_tup (sa_cons (se_v 4) (sa_cons (se_bin op_mod lf_mod (se_v 1) se_int) sa_nil))))) sss_nil)
    (sss_cons (sp_if (st_cmp (op_eq' K hr.units) lf_eq (se_v 4) se_str) (sss_one (sp_ret (se_tup (sa_cons (se_v 4) (sa_cons (se_bin op_mod lf_mod (se_v 1) se_int) (sa_cons (se_bin op_mod lf_mod (se_bin op_fdiv lf_div (se_v 1) se_int) se_int) (sa_cons (se_bin op_mod lf_mod (se_v 2) se_int) sa_nil))))))) sss_nil)
    (sss_cons (sp_if (st_cmp (op_in' K (hu_of hr)) lf_in (se_v 4) (se_tup (sa_cons se_str (sa_cons se_str sa_nil)))) (sss_one (sp_ret (se_tup (sa_cons (se_v 4) (sa_cons (se_bin op_mod lf_mod (se_v 1) se_int) (sa_cons (se_bin op_mod lf_mod (se_v 2) se_int) (sa_cons (se_bin op_mod lf_mod (se_bin op_fdiv lf_div (se_v 1) se_int) se_int) sa_nil))))))) sss_nil)
    (sss_cons (sp_if (st_cmp (op_eq' K hr.units) lf_eq (se_v 4) se_str) (sss_one (sp_ret (se_tup (sa_cons (se_v 4) (sa_cons (se_bin op_mod lf_mod (se_v 1) se_int) (sa_cons (se_bin op_mod lf_mod (se_v 2) se_int) (sa_cons (se_bin op_mod lf_mod (se_bin (op_add' K) lf_add (se_bin op_fdiv lf_div (se_v 1) se_int) (se_v 2)) (se_v 3)) sa_nil))))))) sss_nil)
    (sss_cons (sp_if (st_cmp (op_eq' K hr.units) lf_eq (se_v 4) se_str) (sss_one (sp_ret (se_tup (sa_cons (se_v 4) (sa_cons (se_bin op_mod lf_mod (se_v 2) se_int) (sa_cons (se_bin op_mod lf_mod (se_v 1) se_int) sa_nil)))))) sss_nil)
    (sss_cons (sp_if (st_cmp (op_eq' K hr.units) lf_eq (se_v 4) se_str) (sss_one (sp_ret (se_tup (sa_cons (se_v 4) (sa_cons (se_bin op_mod lf_mod (se_v 1) se_int) (sa_cons (se_bin op_mod lf_mod (se_v 2) se_int) sa_nil)))))) sss_nil)
    (sss_cons (sp_if (st_cmp (op_eq' K hr.units) lf_eq (se_v 4) se_str) (sss_one (sp_ret (se_tup (sa_cons (se_v 4) (sa_cons (se_bin op_mod lf_mod (se_bin (op_add' K) lf_add (se_v 1) (se_v 2)) (se_v 3)) sa_nil))))) sss_nil)
    (sss_one (sp_ret (se_tup (sa_cons (se_v 4) sa_nil))))))))))))
theorem fx_law_program (Fn : Fun K "_law_program" "_law_program" s_law_program f fd) (hmg : mg "_law_program" = some (.ref f)) (hb : Binds K fd ["tape", "place"] []) (B : Bn mg) (F_law_at : Fx P w K mg base 1 "_law_at" 2 m_law_at) (F_law_row : Fx P w K mg base 1 "_law_row" 4 m_law_row) : Fx P w K mg base 2 "_law_program" 2 m_law_program :=
  fx_mkL (g := g_law_program) Fn sc_law_program hmg hb (by decide) rfl rfl fun cdv A outer s H W hr => (sss_cons (sp_set sc_law_program.nd rfl (by first | exact .inl rfl | exact .inr rfl) (se_bin (op_add' K) lf_add se_int (se_bin op_mod lf_mod (sx_call K F_law_at (hr.mono (by decide)) (by rfl) (sa_cons (se_v 0) (sa_cons (se_v 1) sa_nil))) se_int)))
    (sss_cons (sp_setN sc_law_program.nd rfl (by first | exact .inl rfl | exact .inr rfl) (sn_lst sa_nil))
    (sss_cons (sp_for PassesOwn.never rfl (si_r1 (by rfl) B.range (sa_cons (se_bin op_sub lf_sub (se_v 2) se_int) sa_nil)) (sg_n sc_law_program.nd rfl (by first | exact .inl rfl | exact .inr rfl)) (sss_one (sp_app (pv 3) (sx_call K F_law_row (hr.mono (by decide)) (by rfl) (sa_cons (sx_call K F_law_at (hr.mono (by decide)) (by rfl) (sa_cons (se_v 0) (sa_cons (se_bin (op_add' K) lf_add (se_bin (op_add' K) lf_add (se_v 1) (se_bin (op_mul' K) lf_mul se_int (se_v 4))) se_int) sa_nil))) (sa_cons (sx_call K F_law_at (hr.mono (by decide)) (by rfl) (sa_cons (se_v 0) (sa_cons (se_bin (op_add' K) lf_add (se_bin (op_add' K) lf_add (se_v 1) (se_bin (op_mul' K) lf_mul se_int (se_v 4))) se_int) sa_nil))) (sa_cons (sx_call K F_law_at (hr.mono (by decide)) (by rfl) (sa_cons (se_v 0) (sa_cons (se_bin (op_add' K) lf_add (se_bin (op_add' K) lf_add (se_v 1) (se_bin (op_mul' K) lf_mul se_int (se_v 4))) se_int) sa_nil))) (sa_cons (se_v 2) sa_nil))))))))
    (sss_cons (sp_app (pv 3) (sx_ix K (hu_of hr) (sn_e (sn_lst (sa_cons (se_tup (sa_cons se_str sa_nil)) (sa_cons (se_tup (sa_cons se_str (sa_cons (se_bin op_mod lf_mod (sx_call K F_law_at (hr.mono (by decide)) (by rfl) (sa_cons (se_v 0) (sa_cons (se_v 1) sa_nil))) (se_v 2)) sa_nil))) (sa_cons (se_tup (sa_cons se_str sa_nil)) sa_nil))))) (se_bin op_mod lf_mod (sx_call K F_law_at (hr.mono (by decide)) (by rfl) (sa_cons (se_v 0) (sa_cons (se_bin (op_add' K) lf_add (se_v 1) se_int) sa_nil))) se_int)))
    (sss_cons (sp_set sc_law_program.nd rfl (by first | exact .inl rfl | exact .inr rfl) (se_callTy (cl_tuple K) lf_tuple (by rfl) B.tuple mb_tuple (sa_cons (sn_e (sn_lc (own := [("r", 6)]) rfl sc_law_program.nd (si_r1 (by rfl) B.range (sa_cons se_int sa_nil)) (blkOk_by (N := N_law_program) (sc := defScope s_law_program) (by decide +kernel)) (fun _ _ _ _ _ => (sg_n sc_law_program.nd rfl (by first | exact .inl rfl | exact .inr rfl))) (fun _ _ _ _ _ => (sts_one (st_cmp (op_eq' K hr.units) lf_eq (se_bin op_mod lf_mod (se_bin op_fdiv lf_div (sx_call K F_law_at (hr.mono (by decide)) (by rfl) (sa_cons (se_v 0) (sa_cons (se_bin (op_add' K) lf_add (se_v 1) se_int) sa_nil))) (se_bin (op_add' K) lf_add (se_v 6) se_int)) se_int) se_int))) (fun _ _ _ _ _ => (se_v 6)) own1)) sa_nil)))
    (sss_one (sp_frz 3 (sp_ret (sn_e (sn_disp (sp_cons (se_v 5) (sp_cons (se_callTy (cl_tuple K) lf_tuple (by rfl) B.tuple mb_tuple (sa_cons (se_v 3) sa_nil)) sp_nil))))))))))))
theorem fx_fenced_target (Fn : Fun K "fenced_target" "fenced_target" s_fenced_target f fd) (hmg : mg "fenced_target" = some (.ref f)) (hb : Binds K fd ["target", "fenced"] []) (B : Bn mg) : Fx P w K mg base 1 "fenced_target" 2 m_fenced_target :=
  fx_mkL (g := g_fenced_target) Fn sc_fenced_target hmg hb (by decide) rfl rfl fun cdv A outer s H W hr => (sss_one (sp_ret (se_bin (op_add' K) lf_add (se_v 0) (se_callB (cl_len K) lf_len (by rfl) B.len PySem.boot_len (sa_cons (sn_e (sn_lc (own := [("place", 2)]) rfl sc_fenced_target.nd (sx_seq K (se_v 1)) (blkOk_by (N := N_fenced_target) (sc := defScope s_fenced_target) (by decide +kernel)) (fun _ _ _ _ _ => (sg_n sc_fenced_target.nd rfl (by first | exact .inl rfl | exact .inr rfl))) (fun _ _ _ _ _ => (sts_one (st_cmp op_lt lf_lt (se_v 2) (se_v 0)))) (fun _ _ _ _ _ => (se_v 2)) own1)) sa_nil)))))
theorem fx_fenced_row (Fn : Fun K "fenced_row" "fenced_row" s_fenced_row f fd) (hmg : mg "fenced_row" = some (.ref f)) (hb : Binds K fd ["row", "fenced"] []) (B : Bn mg) (F_fenced_target : Fx P w K mg base 1 "fenced_target" 2 m_fenced_target) : Fx P w K mg base 2 "fenced_row" 2 m_fenced_row :=
  fx_mkL (g := g_fenced_row) Fn sc_fenced_row hmg hb (by decide) rfl rfl fun cdv A outer s H W hr => (sss_cons (sp_if (st_cmp (op_eq' K hr.units) lf_eq (sx_ix K (hu_of hr) (se_v 0) se_int) se_str) (sss_one (sp_ret (se_tup (sa_cons se_str (sa_cons (sx_ix K (hu_of hr) (se_v 0) se_int) (sa_cons (sx_ix K (hu_of hr) (se_v 0) se_int) (sa_cons (sx_call K F_fenced_target (hr.mono (by decide)) (by rfl) (sa_cons (sx_ix K (hu_of hr) (se_v 0) se_int) (sa_cons (se_v 1) sa_nil))) sa_nil))))))) sss_nil)
    (sss_cons (sp_if (st_cmp (op_eq' K hr.units) lf_eq (sx_ix K (hu_of hr) (se_v 0) se_int) se_str) (sss_one (sp_ret (se_tup (sa_cons se_str (sa_cons (sx_call K F_fenced_target (hr.mono (by decide)) (by rfl) (sa_cons (sx_ix K (hu_of hr) (se_v 0) se_int) (sa_cons (se_v 1) sa_nil))) sa_nil))))) sss_nil)
    (sss_one (sp_ret (se_v 0)))))
theorem fx_with_fences (Fn : Fun K "with_fences" "with_fences" s_with_fences f fd) (hmg : mg "with_fences" = some (.ref f)) (hb : Binds K fd ["program", "places"] []) (B : Bn mg) (F_fenced_row : Fx P w K mg base 2 "fenced_row" 2 m_fenced_row) : Fx P w K mg base 3 "with_fences" 2 m_with_fences :=
  fx_mkL (g := g_with_fences) Fn sc_with_fences hmg hb (by decide) rfl rfl fun cdv A outer s H W hr => (sss_cons (sp_set sc_with_fences.nd rfl (by first | exact .inl rfl | exact .inr rfl) (sx_ix K (hu_of hr) (se_v 0) se_str))
    (sss_cons (sp_setLc (lc_pe (own := [("place", 5)]) rfl sc_with_fences.nd rfl rfl (sw_true rfl rfl rfl (by decide +kernel)) (si_r1 (by rfl) B.range (sa_cons (se_callB (cl_len K) lf_len (by rfl) B.len PySem.boot_len (sa_cons (se_v 2) sa_nil)) sa_nil)) (blkOk_by (N := N_with_fences) (sc := defScope s_with_fences) (by decide +kernel)) (fun _ _ _ _ _ => (sg_n sc_with_fences.nd rfl (by first | exact .inl rfl | exact .inr rfl))) (fun _ _ _ _ _ => (sts_one (st_cmp (op_in' K (hu_of hr)) lf_in (se_v 5) (se_v 1)))) (fun _ _ _ _ _ => (se_v 5)) own1))
    (sss_cons (sp_setN sc_with_fences.nd rfl (by first | exact .inl rfl | exact .inr rfl) (sn_lst sa_nil))
    (sss_cons (sp_for PassesOwn.never rfl (sx_enum K (by rfl) B.enumerate (sa_cons (se_v 2) sa_nil)) (sx_t K rfl (sgs_cons (sg_n sc_with_fences.nd rfl (by first | exact .inl rfl | exact .inr rfl)) (sgs_cons (sg_n sc_with_fences.nd rfl (by first | exact .inl rfl | exact .inr rfl)) sgs_nil)) gs_len2) (sss_cons (sp_if (st_cmp (op_in' K (hu_of hr)) lf_in (se_v 5) (se_v 3)) (sss_one (sp_app (pv 4) (se_tup (sa_cons se_str sa_nil)))) sss_nil)
    (sss_one (sp_app (pv 4) (sx_call K F_fenced_row (hr.mono (by decide)) (by rfl) (sa_cons (se_v 6) (sa_cons (se_v 3) sa_nil)))))))
    (sss_one (sp_frz 4 (sp_ret (sn_e (sn_disp (sp_cons (sx_ix K (hu_of hr) (se_v 0) se_str) (sp_cons (se_callTy (cl_tuple K) lf_tuple (by rfl) B.tuple mb_tuple (sa_cons (se_v 4) sa_nil)) sp_nil)))))))))))
theorem fx_has_keys (Fn : Fun K "has_keys" "has_keys" s_has_keys f fd) (hmg : mg "has_keys" = some (.ref f)) (hb : Binds K fd ["value", "names"] []) (B : Bn mg) : Fx P w K mg base 1 "has_keys" 2 m_has_keys :=
  fx_mkL (g := g_has_keys) Fn sc_has_keys hmg hb (by decide) rfl rfl fun cdv A outer s H W hr => (sss_cons (sp_if (st_cmp op_isnA lf_isn (se_callTy (cl_type K) lf_type (by rfl) B.type mb_type (sa_cons (se_v 0) sa_nil)) (se_ty (by rfl) B.dict mb_dict)) (sss_one (sp_ret se_bl)) sss_nil)
    (sss_one (sp_ret (se_and (se_callB (cl_all K rfl) lf_all (by rfl) B.all mb_all (sa_cons (sn_e (sn_lcK (own := [("key", 2)]) rfl sc_has_keys.nd (pv 0) (blkOk_by (N := N_has_keys) (sc := defScope s_has_keys) (by decide +kernel)) (fun _ _ _ _ _ => (sg_n sc_has_keys.nd rfl (by first | exact .inl rfl | exact .inr rfl))) (fun _ _ _ _ _ => (se_cmp op_isA lf_is (se_callTy (cl_type K) lf_type (by rfl) B.type mb_type (sa_cons (se_v 2) sa_nil)) (se_ty (by rfl) B.str mb_str))) own1)) sa_nil)) (se_one (se_cmp (op_eq' K hr.units) lf_eq (sn_e (sn_callB (call_sortedD rfl) lf_sortedD (by rfl) B.sorted mb_sorted (sa_cons (se_v 0) sa_nil))) (se_v 1)))))))
theorem fx_is_natural (Fn : Fun K "is_natural" "is_natural" s_is_natural f fd) (hmg : mg "is_natural" = some (.ref f)) (hb : Binds K fd ["value"] []) (B : Bn mg) : Fx P w K mg base 1 "is_natural" 1 m_is_natural :=
  fx_mkL (g := g_is_natural) Fn sc_is_natural hmg hb (by decide) rfl rfl fun cdv A outer s H W hr => (sss_one (sp_ret (se_and (se_cmp op_isA lf_is (se_callTy (cl_type K) lf_type (by rfl) B.type mb_type (sa_cons (se_v 0) sa_nil)) (se_ty (by rfl) B.int mb_int)) (se_one (se_cmp op_ge lf_ge (se_v 0) se_int)))))
theorem fx_is_number (Fn : Fun K "is_number" "is_number" s_is_number f fd) (hmg : mg "is_number" = some (.ref f)) (hb : Binds K fd ["value", "bound"] []) (B : Bn mg) (F_is_natural : Fx P w K mg base 1 "is_natural" 1 m_is_natural) : Fx P w K mg base 2 "is_number" 2 m_is_number :=
  fx_mkL (g := g_is_number) Fn sc_is_number hmg hb (by decide) rfl rfl fun cdv A outer s H W hr => (sss_one (sp_ret (se_and (sx_call K F_is_natural (hr.mono (by decide)) (by rfl) (sa_cons (se_v 0) sa_nil)) (se_one (se_cmp op_lt lf_lt (se_v 0) (se_v 1))))))
theorem fx_is_ascending (Fn : Fun K "is_ascending" "is_ascending" s_is_ascending f fd) (hmg : mg "is_ascending" = some (.ref f)) (hb : Binds K fd ["value", "bound"] []) (B : Bn mg) (F_is_number : Fx P w K mg base 2 "is_number" 2 m_is_number) : Fx P w K mg base 3 "is_ascending" 2 m_is_ascending :=
  fx_mkL (g := g_is_ascending) Fn sc_is_ascending hmg hb (by decide) rfl rfl fun cdv A outer s H W hr => (sss_cons (sp_if (st_cmp op_isnA lf_isn (se_callTy (cl_type K) lf_type (by rfl) B.type mb_type (sa_cons (se_v 0) sa_nil)) (se_ty (by rfl) B.tuple mb_tuple)) (sss_one (sp_ret se_bl)) sss_nil)
    (sss_cons (sp_if (st_not (st_val (se_callB (cl_all K rfl) lf_all (by rfl) B.all mb_all (sa_cons (sn_e (sn_lc (own := [("number", 2)]) rfl sc_is_ascending.nd (sx_seq K (se_v 0)) (blkOk_by (N := N_is_ascending) (sc := defScope s_is_ascending) (by decide +kernel)) (fun _ _ _ _ _ => (sg_n sc_is_ascending.nd rfl (by first | exact .inl rfl | exact .inr rfl))) (fun _ _ _ _ _ => sts_nil) (fun _ _ _ _ _ => (sx_call K F_is_number (hr.mono (by decide)) (by rfl) (sa_cons (se_v 2) (sa_cons (se_v 1) sa_nil)))) own1)) sa_nil)))) (sss_one (sp_ret se_bl)) sss_nil)
    (sss_one (sp_ret (se_callB (cl_all K rfl) lf_all (by rfl) B.all mb_all (sa_cons (sn_e (sn_lc (own := [("low", 3), ("high", 4)]) rfl sc_is_ascending.nd (sx_zip K (by rfl) B.zip (sa_cons (se_v 0) (sa_cons (sx_sl K (se_v 0) (so_s se_int) so_n) sa_nil))) (blkOk_by (N := N_is_ascending) (sc := defScope s_is_ascending) (by decide +kernel)) (fun _ _ _ _ _ => (sx_t K rfl (sgs_cons (sg_n sc_is_ascending.nd rfl (by first | exact .inl rfl | exact .inr rfl)) (sgs_cons (sg_n sc_is_ascending.nd rfl (by first | exact .inl rfl | exact .inr rfl)) sgs_nil)) gs_len2)) (fun _ _ _ _ _ => sts_nil) (fun _ _ _ _ _ => (se_cmp op_lt lf_lt (se_v 3) (se_v 4))) own2)) sa_nil))))))
theorem fx_bound_of (Fn : Fun K "bound_of" "bound_of" s_bound_of f fd) (hmg : mg "bound_of" = some (.ref f)) (hb : Binds K fd ["kind", "places"] []) (B : Bn mg) {t_REGISTERS : Tok} (G_REGISTERS : mg "REGISTERS" = some (.int 4 t_REGISTERS)) {t_SLOTS : Tok} (G_SLOTS : mg "SLOTS" = some (.int 2 t_SLOTS)) {t_ARRAYS : Tok} (G_ARRAYS : mg "ARRAYS" = some (.int 2 t_ARRAYS)) : Fx P w K mg base 1 "bound_of" 2 m_bound_of :=
  fx_mkL (g := g_bound_of) Fn sc_bound_of hmg hb (by decide) rfl rfl fun cdv A outer s H W hr => (sss_cons (sp_set sc_bound_of.nd rfl (by first | exact .inl rfl | exact .inr rfl) (sn_e (sn_disp (sp_cons (se_gi G_REGISTERS) (sp_cons (se_gi G_SLOTS) (sp_cons (se_gi G_ARRAYS) (sp_cons (se_v 1) sp_nil)))))))
    (sss_one (sp_ret (sx_ix K (hu_of hr) (se_v 2) (se_v 0)))))
theorem fx_is_row (Fn : Fun K "is_row" "is_row" s_is_row f fd) (hmg : mg "is_row" = some (.ref f)) (hb : Binds K fd ["value", "places"] []) (B : Bn mg) {d_FORMS : Addr} (G_FORMS : mg "FORMS" = some (.ref d_FORMS)) (T_FORMS : KTab K w d_FORMS tab_FORMS) (F_bound_of : Fx P w K mg base 1 "bound_of" 2 m_bound_of) (F_is_number : Fx P w K mg base 2 "is_number" 2 m_is_number) : Fx P w K mg base 3 "is_row" 2 m_is_row :=
  fx_mkL (g := g_is_row) Fn sc_is_row hmg hb (by decide) rfl rfl fun cdv A outer s H W hr => (sss_cons (sp_if (sw_t (sw_or (st_cmp op_isnA lf_isn (se_callTy (cl_type K) lf_type (by rfl) B.type mb_type (sa_cons (se_v 0) sa_nil)) (se_ty (by rfl) B.tuple mb_tuple)) (sw_or1 (st_cmp (op_eq' K hr.units) lf_eq (se_callB (cl_len K) lf_len (by rfl) B.len PySem.boot_len (sa_cons (se_v 0) sa_nil)) se_int)))) (sss_one (sp_ret se_bl)) sss_nil)
    (sss_cons (sp_set sc_is_row.nd rfl (by first | exact .inl rfl | exact .inr rfl) (sx_ix K (hu_of hr) (se_v 0) se_int))
    (sss_cons (sp_if (sw_t (sw_or (st_cmp op_isnA lf_isn (se_callTy (cl_type K) lf_type (by rfl) B.type mb_type (sa_cons (se_v 2) sa_nil)) (se_ty (by rfl) B.str mb_str)) (sw_or1 (tx_knin K T_FORMS (se_v 2) (by rfl) G_FORMS)))) (sss_one (sp_ret se_bl)) sss_nil)
    (sss_cons (sp_set sc_is_row.nd rfl (by first | exact .inl rfl | exact .inr rfl) (sx_kix K T_FORMS (se_v 2) (by rfl) G_FORMS))
    (sss_cons (sp_if (st_cmp (op_ne' K hr.units) lf_ne (se_callB (cl_len K) lf_len (by rfl) B.len PySem.boot_len (sa_cons (se_v 0) sa_nil)) (se_bin (op_add' K) lf_add (se_callB (cl_len K) lf_len (by rfl) B.len PySem.boot_len (sa_cons (se_v 3) sa_nil)) se_int)) (sss_one (sp_ret se_bl)) sss_nil)
    (sss_one (sp_ret (se_callB (cl_all K rfl) lf_all (by rfl) B.all mb_all (sa_cons (sn_e (sn_lc (own := [("part", 4), ("kind", 5)]) rfl sc_is_row.nd (sx_zip K (by rfl) B.zip (sa_cons (sx_sl K (se_v 0) (so_s se_int) so_n) (sa_cons (se_v 3) sa_nil))) (blkOk_by (N := N_is_row) (sc := defScope s_is_row) (by decide +kernel)) (fun _ _ _ _ _ => (sx_t K rfl (sgs_cons (sg_n sc_is_row.nd rfl (by first | exact .inl rfl | exact .inr rfl)) (sgs_cons (sg_n sc_is_row.nd rfl (by first | exact .inl rfl | exact .inr rfl)) sgs_nil)) gs_len2)) (fun _ _ _ _ _ => sts_nil) (fun _ _ _ _ _ => (sx_call K F_is_number (hr.mono (by decide)) (by rfl) (sa_cons (se_v 4) (sa_cons (sx_call K F_bound_of (hr.mono (by decide)) (by rfl) (sa_cons (se_v 5) (sa_cons (se_v 1) sa_nil))) sa_nil)))) own2)) sa_nil)))))))))
theorem fx_are_rows (Fn : Fun K "are_rows" "are_rows" s_are_rows f fd) (hmg : mg "are_rows" = some (.ref f)) (hb : Binds K fd ["value"] []) (B : Bn mg) {t_MOST_ROWS : Tok} (G_MOST_ROWS : mg "MOST_ROWS" = some (.int 32 t_MOST_ROWS)) (F_is_row : Fx P w K mg base 3 "is_row" 2 m_is_row) : Fx P w K mg base 4 "are_rows" 1 m_are_rows :=
  fx_mkL (g := g_are_rows) Fn sc_are_rows hmg hb (by decide) rfl rfl fun cdv A outer s H W hr => (sss_cons (sp_if (sw_t (sw_or (st_cmp op_isnA lf_isn (se_callTy (cl_type K) lf_type (by rfl) B.type mb_type (sa_cons (se_v 0) sa_nil)) (se_ty (by rfl) B.tuple mb_tuple)) (sw_or1 (st_not (st_chain op_le op_le lf_le lf_le se_int (se_callB (cl_len K) lf_len (by rfl) B.len PySem.boot_len (sa_cons (se_v 0) sa_nil)) (se_gi G_MOST_ROWS)))))) (sss_one (sp_ret se_bl)) sss_nil)
    (sss_cons (sp_if (st_not (st_val (se_callB (cl_all K rfl) lf_all (by rfl) B.all mb_all (sa_cons (sn_e (sn_lc (own := [("row", 1)]) rfl sc_are_rows.nd (sx_seq K (se_v 0)) (blkOk_by (N := N_are_rows) (sc := defScope s_are_rows) (by decide +kernel)) (fun _ _ _ _ _ => (sg_n sc_are_rows.nd rfl (by first | exact .inl rfl | exact .inr rfl))) (fun _ _ _ _ _ => sts_nil) (fun _ _ _ _ _ => (sx_call K F_is_row (hr.mono (by decide)) (by rfl) (sa_cons (se_v 1) (sa_cons (se_callB (cl_len K) lf_len (by rfl) B.len PySem.boot_len (sa_cons (se_v 0) sa_nil)) sa_nil)))) own1)) sa_nil)))) (sss_one (sp_ret se_bl)) sss_nil)
    (sss_one (sp_ret (se_cmp (op_in' K (hu_of hr)) lf_in (sx_ix K (hu_of hr) (sx_ix K (hu_of hr) (se_v 0) (se_neg se_int)) se_int) (se_tup (sa_cons se_str (sa_cons se_str sa_nil))))))))
theorem fx_is_program (Fn : Fun K "is_program" "is_program" s_is_program f fd) (hmg : mg "is_program" = some (.ref f)) (hb : Binds K fd ["value"] []) (B : Bn mg) {t_REGISTERS : Tok} (G_REGISTERS : mg "REGISTERS" = some (.int 4 t_REGISTERS)) (F_are_rows : Fx P w K mg base 4 "are_rows" 1 m_are_rows) (F_has_keys : Fx P w K mg base 1 "has_keys" 2 m_has_keys) (F_is_ascending : Fx P w K mg base 3 "is_ascending" 2 m_is_ascending) : Fx P w K mg base 5 "is_program" 1 m_is_program :=
  fx_mkL (g := g_is_program) Fn sc_is_program hmg hb (by decide) rfl rfl fun cdv A outer s H W hr => (sss_cons (sp_if (st_not (st_val (sx_call K F_has_keys (hr.mono (by decide)) (by rfl) (sa_cons (se_v 0) (sa_cons (sn_e (sn_lst (sa_cons se_str (sa_cons se_str sa_nil)))) sa_nil))))) (sss_one (sp_ret se_bl)) sss_nil)
    (sss_one (sp_ret (se_and (sx_call K F_is_ascending (hr.mono (by decide)) (by rfl) (sa_cons (sx_ix K (hu_of hr) (se_v 0) se_str) (sa_cons (se_gi G_REGISTERS) sa_nil))) (se_one (sx_call K F_are_rows (hr.mono (by decide)) (by rfl) (sa_cons (sx_ix K (hu_of hr) (se_v 0) se_str) sa_nil)))))))
theorem fx_law_made (Fn : Fun K "_law_made" "_law_made" s_law_made f fd) (hmg : mg "_law_made" = some (.ref f)) (hb : Binds K fd ["secret", "rows"] []) (B : Bn mg) : Fx P w K mg base 1 "_law_made" 2 m_law_made :=
  fx_mkL (g := g_law_made) Fn sc_law_made hmg hb (by decide) rfl rfl fun cdv A outer s H W hr => (sss_one (sp_ret (sn_e (sn_disp (sp_cons (se_v 0) (sp_cons (se_v 1) sp_nil))))))
theorem fx_law_spoiled (Fn : Fun K "_law_spoiled" "_law_spoiled" s_law_spoiled f fd) (hmg : mg "_law_spoiled" = some (.ref f)) (hb : Binds K fd ["program", "kind", "at", "odd"] []) (B : Bn mg) (F_law_made : Fx P w K mg base 1 "_law_made" 2 m_law_made) : Fx P w K mg base 2 "_law_spoiled" 4 m_law_spoiled :=
  fx_mkL (g := g_law_spoiled) Fn sc_law_spoiled hmg hb (by decide) rfl rfl fun cdv A outer s H W hr => (sss_cons (sp_par rfl sc_law_spoiled.nd rfl rfl (by decide) rfl rfl (sa_cons (sx_ix K (hu_of hr) (se_v 0) se_str) (sa_cons (sx_ix K (hu_of hr) (se_v 0) se_str) sa_nil)))
    (sss_cons (sp_set sc_law_spoiled.nd rfl (by first | exact .inl rfl | exact .inr rfl) (sx_ix K (hu_of hr) (se_v 7) (se_bin op_mod lf_mod (se_v 2) (se_callB (cl_len K) lf_len (by rfl) B.len PySem.boot_len (sa_cons (se_v 7) sa_nil)))))
    (sss_cons (sp_if (st_cmp (op_eq' K hr.units) lf_eq (se_v 1) se_int) (sss_one (sp_ret (sx_call K F_law_made (hr.mono (by decide)) (by rfl) (sa_cons (se_v 6) (sa_cons (se_bin (op_add' K) lf_add (se_bin (op_add' K) lf_add (sx_sl K (se_v 7) so_n (so_s (se_bin op_mod lf_mod (se_v 2) (se_callB (cl_len K) lf_len (by rfl) B.len PySem.boot_len (sa_cons (se_v 7) sa_nil))))) (se_tup (sa_cons (se_bin (op_add' K) lf_add (se_v 4) (se_tup (sa_cons se_int sa_nil))) sa_nil))) (sx_sl K (se_v 7) (so_s (se_bin (op_add' K) lf_add (se_bin op_mod lf_mod (se_v 2) (se_callB (cl_len K) lf_len (by rfl) B.len PySem.boot_len (sa_cons (se_v 7) sa_nil))) se_int)) so_n)) sa_nil))))) sss_nil)
    (sss_cons (sp_if (st_cmp (op_eq' K hr.units) lf_eq (se_v 1) se_int) (sss_one (sp_ret (sx_call K F_law_made (hr.mono (by decide)) (by rfl) (sa_cons (se_v 6) (sa_cons (se_bin (op_add' K) lf_add (se_v 7) (se_tup (sa_cons (se_tup (sa_cons se_str (sa_cons se_int sa_nil))) sa_nil))) sa_nil))))) sss_nil)
    (sss_cons (sp_if (st_cmp (op_eq' K hr.units) lf_eq (se_v 1) se_int) (sss_one (sp_ret (sx_call K F_law_made (hr.mono (by decide)) (by rfl) (sa_cons (se_v 6) (sa_cons (se_bin (op_add' K) lf_add (se_bin (op_mul' K) lf_mul (se_tup (sa_cons (se_tup (sa_cons se_str sa_nil)) sa_nil)) se_int) (se_v 7)) sa_nil))))) sss_nil)
    (sss_cons (sp_if (st_cmp (op_eq' K hr.units) lf_eq (se_v 1) se_int) (sss_one (sp_ret (sx_call K F_law_made (hr.mono (by decide)) (by rfl) (sa_cons (se_v 6) (sa_cons (sn_e (sn_callTy (cl_list K) lf_list (by rfl) B.list mb_list (sa_cons (se_v 7) sa_nil))) sa_nil))))) sss_nil)
    (sss_cons (sp_if (st_cmp (op_eq' K hr.units) lf_eq (se_v 1) se_int) (sss_one (sp_ret (sx_call K F_law_made (hr.mono (by decide)) (by rfl) (sa_cons (se_tup (sa_cons se_int (sa_cons se_int sa_nil))) (sa_cons (se_v 7) sa_nil))))) sss_nil)
    (sss_cons (sp_if (st_cmp (op_eq' K hr.units) lf_eq (se_v 1) se_int) (sss_one (sp_ret (sx_call K F_law_made (hr.mono (by decide)) (by rfl) (sa_cons (se_tup (sa_cons se_int sa_nil)) (sa_cons (se_v 7) sa_nil))))) sss_nil)
    (sss_cons (sp_if (st_cmp (op_eq' K hr.units) lf_eq (se_v 1) se_int) (sss_one (sp_ret (sx_call K F_law_made (hr.mono (by decide)) (by rfl) (sa_cons (se_v 6) (sa_cons (se_tup sa_nil) sa_nil))))) sss_nil)
    (sss_cons (sp_if (st_cmp (op_eq' K hr.units) lf_eq (se_v 1) se_int) (sss_one (sp_ret (sx_ix K (hu_of hr) (sn_e (sn_lst (sa_cons (se_tup (sa_cons (se_v 6) (sa_cons (se_v 7) sa_nil))) (sa_cons (sn_e (sn_disp (sp_cons (se_v 6) sp_nil))) (sa_cons (sn_e (sn_disp (sp_cons (se_v 6) (sp_cons (se_v 7) (sp_cons se_int sp_nil))))) sa_nil))))) (se_bin op_mod lf_mod (se_v 2) se_int)))) sss_nil)
    (sss_cons (sp_set sc_law_spoiled.nd rfl (by first | exact .inl rfl | exact .inr rfl) (sn_e (sn_lst (sa_cons (se_tup (sa_cons se_str (sa_cons (se_v 3) sa_nil))) (sa_cons (se_tup (sa_cons se_str (sa_cons se_int (sa_cons se_int (sa_cons (se_v 3) sa_nil))))) (sa_cons (se_tup (sa_cons se_str (sa_cons se_int (sa_cons se_int (sa_cons se_int sa_nil))))) (sa_cons (se_tup (sa_cons se_str (sa_cons se_int (sa_cons se_int (sa_cons (se_v 3) sa_nil))))) (sa_cons (se_tup (sa_cons se_str (sa_cons se_int (sa_cons (se_neg se_int) (sa_cons se_int sa_nil))))) (sa_cons (se_tup (sa_cons se_str (sa_cons se_int (sa_cons se_int (sa_cons (se_bin (op_add' K) lf_add (se_callB (cl_len K) lf_len (by rfl) B.len PySem.boot_len (sa_cons (se_v 7) sa_nil)) se_int) sa_nil))))) sa_nil)))))))))
    (sss_cons (sp_set sc_law_spoiled.nd rfl (by first | exact .inl rfl | exact .inr rfl) (sn_e (sn_bin op_cat lf_cat (se_v 5) (sn_e (sn_lst (sa_cons (se_tup (sa_cons se_str (sa_cons se_int (sa_cons se_int sa_nil)))) (sa_cons (se_tup (sa_cons se_str (sa_cons se_int (sa_cons (se_v 3) sa_nil)))) (sa_cons (se_tup (sa_cons se_str (sa_cons (se_neg se_int) sa_nil))) (sa_cons (se_tup (sa_cons se_str sa_nil)) (sa_cons (se_tup (sa_cons se_str sa_nil)) (sa_cons (sn_e (sn_lst (sa_cons se_str (sa_cons se_int sa_nil)))) (sa_cons se_str (sa_cons (se_tup sa_nil) (sa_cons (se_tup (sa_cons se_str (sa_cons (se_v 3) (sa_cons se_int (sa_cons se_int sa_nil))))) sa_nil))))))))))))))
    (sss_one (sp_ret (sx_call K F_law_made (hr.mono (by decide)) (by rfl) (sa_cons (se_v 6) (sa_cons (se_bin (op_add' K) lf_add (se_tup (sa_cons (sx_ix K (hu_of hr) (se_v 5) (se_bin op_mod lf_mod (se_v 2) se_int)) sa_nil)) (se_v 7)) sa_nil)))))))))))))))))
theorem fx_law_moved (Fn : Fun K "_law_moved" "_law_moved" s_law_moved f fd) (hmg : mg "_law_moved" = some (.ref f)) (hb : Binds K fd ["place", "places"] []) (B : Bn mg) : Fx P w K mg base 1 "_law_moved" 2 m_law_moved :=
  fx_mkL (g := g_law_moved) Fn sc_law_moved hmg hb (by decide) rfl rfl fun cdv A outer s H W hr => (sss_one (sp_ret (se_bin (op_add' K) lf_add (se_v 0) (se_callB (cl_len K) lf_len (by rfl) B.len PySem.boot_len (sa_cons (sn_e (sn_lc (own := [("one", 2)]) rfl sc_law_moved.nd (sx_seq K (se_v 1)) (blkOk_by (N := N_law_moved) (sc := defScope s_law_moved) (by decide +kernel)) (fun _ _ _ _ _ => (sg_n sc_law_moved.nd rfl (by first | exact .inl rfl | exact .inr rfl))) (fun _ _ _ _ _ => (sts_one (st_cmp op_lt lf_lt (se_v 2) (se_v 0)))) (fun _ _ _ _ _ => (se_v 2)) own1)) sa_nil)))))
theorem fx_law_fenced (Fn : Fun K "_law_fenced" "_law_fenced" s_law_fenced f fd) (hmg : mg "_law_fenced" = some (.ref f)) (hb : Binds K fd ["program", "places"] []) (B : Bn mg) (F_law_made : Fx P w K mg base 1 "_law_made" 2 m_law_made) (F_law_moved : Fx P w K mg base 1 "_law_moved" 2 m_law_moved) : Fx P w K mg base 2 "_law_fenced" 2 m_law_fenced :=
  fx_mkL (g := g_law_fenced) Fn sc_law_fenced hmg hb (by decide) rfl rfl fun cdv A outer s H W hr => (sss_cons (sp_setN sc_law_fenced.nd rfl (by first | exact .inl rfl | exact .inr rfl) (sn_lst sa_nil))
    (sss_cons (sp_for PassesOwn.never rfl (si_r1 (by rfl) B.range (sa_cons (se_callB (cl_len K) lf_len (by rfl) B.len PySem.boot_len (sa_cons (sx_ix K (hu_of hr) (se_v 0) se_str) sa_nil)) sa_nil)) (sg_n sc_law_fenced.nd rfl (by first | exact .inl rfl | exact .inr rfl)) (sss_cons (sp_if (st_cmp (op_in' K (hu_of hr)) lf_in (se_v 3) (se_v 1)) (sss_one (sp_app (pv 2) (se_tup (sa_cons se_str sa_nil)))) sss_nil)
    (sss_cons (sp_set sc_law_fenced.nd rfl (by first | exact .inl rfl | exact .inr rfl) (sx_ix K (hu_of hr) (sx_ix K (hu_of hr) (se_v 0) se_str) (se_v 3)))
    (sss_cons (sp_if (st_cmp (op_in' K (hu_of hr)) lf_in (sx_ix K (hu_of hr) (se_v 4) se_int) (se_tup (sa_cons se_str (sa_cons se_str sa_nil)))) (sss_one (sp_set sc_law_fenced.nd rfl (by first | exact .inl rfl | exact .inr rfl) (se_bin (op_add' K) lf_add (sx_sl K (se_v 4) so_n (so_s (se_neg se_int))) (se_tup (sa_cons (sx_call K F_law_moved (hr.mono (by decide)) (by rfl) (sa_cons (sx_ix K (hu_of hr) (se_v 4) (se_neg se_int)) (sa_cons (se_v 1) sa_nil))) sa_nil))))) sss_nil)
    (sss_one (sp_app (pv 2) (se_v 4)))))))
    (sss_one (sp_frz 2 (sp_ret (sx_call K F_law_made (hr.mono (by decide)) (by rfl) (sa_cons (sx_ix K (hu_of hr) (se_v 0) se_str) (sa_cons (se_callTy (cl_tuple K) lf_tuple (by rfl) B.tuple mb_tuple (sa_cons (se_v 2) sa_nil)) sa_nil))))))))
theorem fn_law (Fn : Fun K "law" "law" s_law f fd) (B : Bn mg) {t_REGISTERS : Tok} (G_REGISTERS : mg "REGISTERS" = some (.int 4 t_REGISTERS)) {t_SLOTS : Tok} (G_SLOTS : mg "SLOTS" = some (.int 2 t_SLOTS)) {t_ARRAYS : Tok} (G_ARRAYS : mg "ARRAYS" = some (.int 2 t_ARRAYS)) {t_MOST_ROWS : Tok} (G_MOST_ROWS : mg "MOST_ROWS" = some (.int 32 t_MOST_ROWS)) (F_law_at : Fx P w K mg base 1 "_law_at" 2 m_law_at) (F_law_fenced : Fx P w K mg base 2 "_law_fenced" 2 m_law_fenced) (F_law_program : Fx P w K mg base 2 "_law_program" 2 m_law_program) (F_law_spoiled : Fx P w K mg base 2 "_law_spoiled" 4 m_law_spoiled) (F_law_tape : Fx P w K mg base 1 "_law_tape" 1 m_law_tape) (F_is_program : Fx P w K mg base 5 "is_program" 1 m_is_program) (F_with_fences : Fx P w K mg base 3 "with_fences" 2 m_with_fences) : FnOk P w K mg base CX0 6 f fd ["script"] (spD K 1 m_law) :=
  fn_mkL (g := g_law) Fn sc_law (by decide) rfl rfl fun cdv A outer s H W hr => (sss_cons (sp_if (st_cmp (op_ne' K hr.units) lf_ne (se_tup (sa_cons (se_gi G_REGISTERS) (sa_cons (se_gi G_SLOTS) (sa_cons (se_gi G_ARRAYS) (sa_cons (se_gi G_MOST_ROWS) sa_nil))))) (se_tup (sa_cons se_int (sa_cons se_int (sa_cons se_int (sa_cons se_int sa_nil)))))) (sss_one (sp_ret se_bl)) sss_nil)
    (sss_cons (sp_set sc_law.nd rfl (by first | exact .inl rfl | exact .inr rfl) (sx_call K F_law_tape (hr.mono (by decide)) (by rfl) (sa_cons (se_v 0) sa_nil)))
    (sss_cons (sp_set sc_law.nd rfl (by first | exact .inl rfl | exact .inr rfl) (sx_call K F_law_program (hr.mono (by decide)) (by rfl) (sa_cons (se_v 1) (sa_cons se_int sa_nil))))
    (sss_cons (sp_if (st_cmp op_isnA lf_isn (sx_call K F_is_program (hr.mono (by decide)) (by rfl) (sa_cons (se_v 2) sa_nil)) se_bl) (sss_one (sp_ret se_bl)) sss_nil)
    (sss_cons (sp_set sc_law.nd rfl (by first | exact .inl rfl | exact .inr rfl) (sx_ix K (hu_of hr) (sn_e (sn_lst (sa_cons se_int (sa_cons (se_neg se_int) (sa_cons se_bl (sa_cons se_non (sa_cons se_str (sa_cons se_int sa_nil)))))))) (se_bin op_mod lf_mod (sx_call K F_law_at (hr.mono (by decide)) (by rfl) (sa_cons (se_v 1) (sa_cons se_int sa_nil))) se_int)))
    (sss_cons (sp_for PassesOwn.never rfl (si_r1 (by rfl) B.range (sa_cons se_int sa_nil)) (sg_n sc_law.nd rfl (by first | exact .inl rfl | exact .inr rfl)) (sss_cons (sp_set sc_law.nd rfl (by first | exact .inl rfl | exact .inr rfl) (sx_call K F_law_spoiled (hr.mono (by decide)) (by rfl) (sa_cons (se_v 2) (sa_cons (se_bin op_mod lf_mod (se_bin (op_add' K) lf_add (sx_call K F_law_at (hr.mono (by decide)) (by rfl) (sa_cons (se_v 1) (sa_cons se_int sa_nil))) (se_bin (op_mul' K) lf_mul se_int (se_v 4))) se_int) (sa_cons (se_bin (op_add' K) lf_add (sx_call K F_law_at (hr.mono (by decide)) (by rfl) (sa_cons (se_v 1) (sa_cons se_int sa_nil))) (se_v 4)) (sa_cons (se_v 3) sa_nil))))))
    (sss_one (sp_if (st_cmp op_isnA lf_isn (sx_call K F_is_program (hr.mono (by decide)) (by rfl) (sa_cons (se_v 8) sa_nil)) se_bl) (sss_one (sp_ret se_bl)) sss_nil))))
    (sss_cons (sp_setLc (lc_pe (own := [("k", 4)]) rfl sc_law.nd rfl rfl (sw_true rfl rfl rfl (by decide +kernel)) (si_r1 (by rfl) B.range (sa_cons (se_callB (cl_len K) lf_len (by rfl) B.len PySem.boot_len (sa_cons (sx_ix K (hu_of hr) (se_v 2) se_str) sa_nil)) sa_nil)) (blkOk_by (N := N_law) (sc := defScope s_law) (by decide +kernel)) (fun _ _ _ _ _ => (sg_n sc_law.nd rfl (by first | exact .inl rfl | exact .inr rfl))) (fun _ _ _ _ _ => (sts_one (st_cmp (op_eq' K hr.units) lf_eq (se_bin op_mod lf_mod (se_bin op_fdiv lf_div (sx_call K F_law_at (hr.mono (by decide)) (by rfl) (sa_cons (se_v 1) (sa_cons se_int sa_nil))) (se_bin (op_add' K) lf_add (se_v 4) se_int)) se_int) se_int))) (fun _ _ _ _ _ => (se_v 4)) own1))
    (sss_cons (sp_set sc_law.nd rfl (by first | exact .inl rfl | exact .inr rfl) (sn_e (sx_rev K (se_v 5))))
    (sss_cons (sp_set sc_law.nd rfl (by first | exact .inl rfl | exact .inr rfl) (sx_call K F_with_fences (hr.mono (by decide)) (by rfl) (sa_cons (se_v 2) (sa_cons (se_v 6) sa_nil))))
    (sss_one (sp_ret (se_and (se_cmp (op_eq' K hr.units) lf_eq (se_v 7) (sx_call K F_law_fenced (hr.mono (by decide)) (by rfl) (sa_cons (se_v 2) (sa_cons (se_v 5) sa_nil)))) (se_and (se_cmp (op_eq' K hr.units) lf_eq (se_v 6) (sn_e (sx_rev K (se_v 5)))) (se_one (se_cmp op_isA lf_is (sx_call K F_is_program (hr.mono (by decide)) (by rfl) (sa_cons se_non sa_nil)) se_bl)))))))))))))))
end
theorem tab_mk_FORMS {K : PySem.W.Frag} {w : World} {d : Addr} {es : Array DictEntry} {n : Nat} (hl : K.lookup d = some ⟨.type "dict", none, .dict es n, #[]⟩) (hk : PySem.W.KeysLit w.params es.toList) (low : (d == sysModules) = false) {a_v0 : Addr} {n_v0 : Nat} {s_v0 : Array (Option Value)} {t_v0_0 : Tok} {a_v1 : Addr} {n_v1 : Nat} {s_v1 : Array (Option Value)} {t_v1_0 : Tok} {t_v1_1 : Tok} {t_v1_2 : Tok} {a_v2 : Addr} {n_v2 : Nat} {s_v2 : Array (Option Value)} {t_v2_0 : Tok} {t_v2_1 : Tok} {t_v2_2 : Tok} {a_v3 : Addr} {n_v3 : Nat} {s_v3 : Array (Option Value)} {t_v3_0 : Tok} {t_v3_1 : Tok} {t_v3_2 : Tok} {a_v4 : Addr} {n_v4 : Nat} {s_v4 : Array (Option Value)} {t_v4_0 : Tok} {t_v4_1 : Tok} {t_v4_2 : Tok} {a_v5 : Addr} {n_v5 : Nat} {s_v5 : Array (Option Value)} {t_v5_0 : Tok} {t_v5_1 : Tok} {a_v6 : Addr} {n_v6 : Nat} {s_v6 : Array (Option Value)} {t_v6_0 : Tok} {t_v6_1 : Tok} {a_v7 : Addr} {n_v7 : Nat} {s_v7 : Array (Option Value)} {a_v8 : Addr} {n_v8 : Nat} {s_v8 : Array (Option Value)} {t_v8_0 : Tok} {a_v9 : Addr} {n_v9 : Nat} {s_v9 : Array (Option Value)} (e0 : PySem.W.nsIn K d "ask" = some (some (.ref a_v0))) (l_v0 : K.lookup a_v0 = some ⟨.type "tuple", none, .seq #[.str "r" t_v0_0] n_v0, s_v0⟩) (e1 : PySem.W.nsIn K d "mix" = some (some (.ref a_v1))) (l_v1 : K.lookup a_v1 = some ⟨.type "tuple", none, .seq #[.str "r" t_v1_0, .str "r" t_v1_1, .str "r" t_v1_2] n_v1, s_v1⟩) (e2 : PySem.W.nsIn K d "load" = some (some (.ref a_v2))) (l_v2 : K.lookup a_v2 = some ⟨.type "tuple", none, .seq #[.str "r" t_v2_0, .str "A" t_v2_1, .str "r" t_v2_2] n_v2, s_v2⟩) (e3 : PySem.W.nsIn K d "mask" = some (some (.ref a_v3))) (l_v3 : K.lookup a_v3 = some ⟨.type "tuple", none, .seq #[.str "r" t_v3_0, .str "A" t_v3_1, .str "r" t_v3_2] n_v3, s_v3⟩) (e4 : PySem.W.nsIn K d "test" = some (some (.ref a_v4))) (l_v4 : K.lookup a_v4 = some ⟨.type "tuple", none, .seq #[.str "r" t_v4_0, .str "A" t_v4_1, .str "target" t_v4_2] n_v4, s_v4⟩) (e5 : PySem.W.nsIn K d "put" = some (some (.ref a_v5))) (l_v5 : K.lookup a_v5 = some ⟨.type "tuple", none, .seq #[.str "s" t_v5_0, .str "r" t_v5_1] n_v5, s_v5⟩) (e6 : PySem.W.nsIn K d "get" = some (some (.ref a_v6))) (l_v6 : K.lookup a_v6 = some ⟨.type "tuple", none, .seq #[.str "r" t_v6_0, .str "s" t_v6_1] n_v6, s_v6⟩) (e7 : PySem.W.nsIn K d "fence" = some (some (.ref a_v7))) (l_v7 : K.lookup a_v7 = some ⟨.type "tuple", none, .seq #[] n_v7, s_v7⟩) (e8 : PySem.W.nsIn K d "jump" = some (some (.ref a_v8))) (l_v8 : K.lookup a_v8 = some ⟨.type "tuple", none, .seq #[.str "target" t_v8_0] n_v8, s_v8⟩) (e9 : PySem.W.nsIn K d "end" = some (some (.ref a_v9))) (l_v9 : K.lookup a_v9 = some ⟨.type "tuple", none, .seq #[] n_v9, s_v9⟩) (w0 : PySem.W.nsIn K d "nothing" = some none) : KTab K w d tab_FORMS := by
  refine ⟨⟨es, n, hl, hk, low⟩, fun z o h => ?_⟩
  unfold tab_FORMS at h
  rcases lookup_step h with ⟨rfl, rfl⟩ | h
  · exact ⟨_, .ref a_v0, e0, rfl, fun F => (kt_of (its := [.str "r" t_v0_0]) (vs := [.str "r"]) l_v0 (sz_of (Nat.le_of_ble_eq_true rfl)) (.cons ⟨_, rfl⟩ .nil) (.cons (rep_str.mpr rfl) .nil))⟩
  rcases lookup_step h with ⟨rfl, rfl⟩ | h
  · exact ⟨_, .ref a_v1, e1, rfl, fun F => (kt_of (its := [.str "r" t_v1_0, .str "r" t_v1_1, .str "r" t_v1_2]) (vs := [.str "r", .str "r", .str "r"]) l_v1 (sz_of (Nat.le_of_ble_eq_true rfl)) (.cons ⟨_, rfl⟩ (.cons ⟨_, rfl⟩ (.cons ⟨_, rfl⟩ .nil))) (.cons (rep_str.mpr rfl) (.cons (rep_str.mpr rfl) (.cons (rep_str.mpr rfl) .nil))))⟩
  rcases lookup_step h with ⟨rfl, rfl⟩ | h
  · exact ⟨_, .ref a_v2, e2, rfl, fun F => (kt_of (its := [.str "r" t_v2_0, .str "A" t_v2_1, .str "r" t_v2_2]) (vs := [.str "r", .str "A", .str "r"]) l_v2 (sz_of (Nat.le_of_ble_eq_true rfl)) (.cons ⟨_, rfl⟩ (.cons ⟨_, rfl⟩ (.cons ⟨_, rfl⟩ .nil))) (.cons (rep_str.mpr rfl) (.cons (rep_str.mpr rfl) (.cons (rep_str.mpr rfl) .nil))))⟩
  rcases lookup_step h with ⟨rfl, rfl⟩ | h
  · exact ⟨_, .ref a_v3, e3, rfl, fun F => (kt_of (its := [.str "r" t_v3_0, .str "A" t_v3_1, .str "r" t_v3_2]) (vs := [.str "r", .str "A", .str "r"]) l_v3 (sz_of (Nat.le_of_ble_eq_true rfl)) (.cons ⟨_, rfl⟩ (.cons ⟨_, rfl⟩ (.cons ⟨_, rfl⟩ .nil))) (.cons (rep_str.mpr rfl) (.cons (rep_str.mpr rfl) (.cons (rep_str.mpr rfl) .nil))))⟩
  rcases lookup_step h with ⟨rfl, rfl⟩ | h
  · exact ⟨_, .ref a_v4, e4, rfl, fun F => (kt_of (its := [.str "r" t_v4_0, .str "A" t_v4_1, .str "target" t_v4_2]) (vs := [.str "r", .str "A", .str "target"]) l_v4 (sz_of (Nat.le_of_ble_eq_true rfl)) (.cons ⟨_, rfl⟩ (.cons ⟨_, rfl⟩ (.cons ⟨_, rfl⟩ .nil))) (.cons (rep_str.mpr rfl) (.cons (rep_str.mpr rfl) (.cons (rep_str.mpr rfl) .nil))))⟩
  rcases lookup_step h with ⟨rfl, rfl⟩ | h
  · exact ⟨_, .ref a_v5, e5, rfl, fun F => (kt_of (its := [.str "s" t_v5_0, .str "r" t_v5_1]) (vs := [.str "s", .str "r"]) l_v5 (sz_of (Nat.le_of_ble_eq_true rfl)) (.cons ⟨_, rfl⟩ (.cons ⟨_, rfl⟩ .nil)) (.cons (rep_str.mpr rfl) (.cons (rep_str.mpr rfl) .nil)))⟩
  rcases lookup_step h with ⟨rfl, rfl⟩ | h
  · exact ⟨_, .ref a_v6, e6, rfl, fun F => (kt_of (its := [.str "r" t_v6_0, .str "s" t_v6_1]) (vs := [.str "r", .str "s"]) l_v6 (sz_of (Nat.le_of_ble_eq_true rfl)) (.cons ⟨_, rfl⟩ (.cons ⟨_, rfl⟩ .nil)) (.cons (rep_str.mpr rfl) (.cons (rep_str.mpr rfl) .nil)))⟩
  rcases lookup_step h with ⟨rfl, rfl⟩ | h
  · exact ⟨_, .ref a_v7, e7, rfl, fun F => (kt_of (its := []) (vs := []) l_v7 (sz_of (Nat.le_of_ble_eq_true rfl)) .nil .nil)⟩
  rcases lookup_step h with ⟨rfl, rfl⟩ | h
  · exact ⟨_, .ref a_v8, e8, rfl, fun F => (kt_of (its := [.str "target" t_v8_0]) (vs := [.str "target"]) l_v8 (sz_of (Nat.le_of_ble_eq_true rfl)) (.cons ⟨_, rfl⟩ .nil) (.cons (rep_str.mpr rfl) .nil))⟩
  rcases lookup_step h with ⟨rfl, rfl⟩ | h
  · exact ⟨_, .ref a_v9, e9, rfl, fun F => (kt_of (its := []) (vs := []) l_v9 (sz_of (Nat.le_of_ble_eq_true rfl)) .nil .nil)⟩
  rcases lookup_step h with ⟨rfl, rfl⟩ | h
  · exact w0
  · cases h
end K01

namespace K01
open PySem PySem.Spec PyProof.Rows L2 Mi
theorem kx_ask : kIx tab_FORMS (.str "ask") = some (.kt [.str "r"]) := by rfl
theorem kn_ask : kNin tab_FORMS (.str "ask") = some (.bl false) := by rfl
theorem kx_mix : kIx tab_FORMS (.str "mix") = some (.kt [.str "r", .str "r", .str "r"]) := by rfl
theorem kn_mix : kNin tab_FORMS (.str "mix") = some (.bl false) := by rfl
theorem kx_load : kIx tab_FORMS (.str "load") = some (.kt [.str "r", .str "A", .str "r"]) := by rfl
theorem kn_load : kNin tab_FORMS (.str "load") = some (.bl false) := by rfl
theorem kx_mask : kIx tab_FORMS (.str "mask") = some (.kt [.str "r", .str "A", .str "r"]) := by rfl
theorem kn_mask : kNin tab_FORMS (.str "mask") = some (.bl false) := by rfl
theorem kx_test : kIx tab_FORMS (.str "test") = some (.kt [.str "r", .str "A", .str "target"]) := by rfl
theorem kn_test : kNin tab_FORMS (.str "test") = some (.bl false) := by rfl
theorem kx_put : kIx tab_FORMS (.str "put") = some (.kt [.str "s", .str "r"]) := by rfl
theorem kn_put : kNin tab_FORMS (.str "put") = some (.bl false) := by rfl
theorem kx_get : kIx tab_FORMS (.str "get") = some (.kt [.str "r", .str "s"]) := by rfl
theorem kn_get : kNin tab_FORMS (.str "get") = some (.bl false) := by rfl
theorem kx_fence : kIx tab_FORMS (.str "fence") = some (.kt []) := by rfl
theorem kn_fence : kNin tab_FORMS (.str "fence") = some (.bl false) := by rfl
theorem kx_jump : kIx tab_FORMS (.str "jump") = some (.kt [.str "target"]) := by rfl
theorem kn_jump : kNin tab_FORMS (.str "jump") = some (.bl false) := by rfl
theorem kx_end : kIx tab_FORMS (.str "end") = some (.kt []) := by rfl
theorem kn_end : kNin tab_FORMS (.str "end") = some (.bl false) := by rfl
theorem kn_nothing : kNin tab_FORMS (.str "nothing") = some (.bl true) := by rfl
local macro_rules | `(tactic| walk_at "ev") => `(tactic| simp (decide := true) [v_def, kx_ask, kn_ask, kx_mix, kn_mix, kx_load, kn_load, kx_mask, kn_mask, kx_test, kn_test, kx_put, kn_put, kx_get, kn_get, kx_fence, kn_fence, kx_jump, kn_jump, kx_end, kn_end, kn_nothing])
theorem is_natural_int (v : Int) : m_is_natural [.int v] = some (.bl (decide (0 ≤ v))) := by
  unfold m_is_natural g_is_natural
  walk_at "ev"
theorem is_number_int (v b : Int) : m_is_number [.int v, .int b] = some (.bl (decide (0 ≤ v) && decide (v < b))) := by
  unfold m_is_number g_is_number
  simp (decide := true) [v_def, is_natural_int]
  by_cases h : 0 ≤ v <;> simp [h]
theorem bound_r (n : Int) : m_bound_of [.str "r", .int n] = some (.int 4) := by rfl
theorem bound_s (n : Int) : m_bound_of [.str "s", .int n] = some (.int 2) := by rfl
theorem bound_A (n : Int) : m_bound_of [.str "A", .int n] = some (.int 2) := by rfl
theorem bound_t (n : Int) : m_bound_of [.str "target", .int n] = some (.int n) := by rfl
local macro_rules | `(tactic| walk_at "ew") => `(tactic| simp (decide := true) [v_def, is_number_int, bound_r, bound_s, bound_A, bound_t, kx_ask, kn_ask, kx_mix, kn_mix, kx_load, kn_load, kx_mask, kn_mask, kx_test, kn_test, kx_put, kn_put, kx_get, kn_get, kx_fence, kn_fence, kx_jump, kn_jump, kx_end, kn_end, kn_nothing])
section
variable {d e f : D} {x y z : Bool} (n : Int)
theorem row_ask (h1 : m_is_number [d, .int 4] = some (.bl x)) : m_is_row [.tup [.str "ask", d], .int n] = some (.bl x) := by
  unfold m_is_row g_is_row
  walk_at "ew"
  simp [h1, dAll, bools]
theorem row_mix (h1 : m_is_number [d, .int 4] = some (.bl x)) (h2 : m_is_number [e, .int 4] = some (.bl y)) (h3 : m_is_number [f, .int 4] = some (.bl z)) : m_is_row [.tup [.str "mix", d, e, f], .int n] = some (.bl (x && (y && z))) := by
  unfold m_is_row g_is_row
  walk_at "ew"
  simp [h1, h2, h3, dAll, bools]
theorem row_load (h1 : m_is_number [d, .int 4] = some (.bl x)) (h2 : m_is_number [e, .int 2] = some (.bl y)) (h3 : m_is_number [f, .int 4] = some (.bl z)) : m_is_row [.tup [.str "load", d, e, f], .int n] = some (.bl (x && (y && z))) := by
  unfold m_is_row g_is_row
  walk_at "ew"
  simp [h1, h2, h3, dAll, bools]
theorem row_mask (h1 : m_is_number [d, .int 4] = some (.bl x)) (h2 : m_is_number [e, .int 2] = some (.bl y)) (h3 : m_is_number [f, .int 4] = some (.bl z)) : m_is_row [.tup [.str "mask", d, e, f], .int n] = some (.bl (x && (y && z))) := by
  unfold m_is_row g_is_row
  walk_at "ew"
  simp [h1, h2, h3, dAll, bools]
theorem row_test (h1 : m_is_number [d, .int 4] = some (.bl x)) (h2 : m_is_number [e, .int 2] = some (.bl y)) (h3 : m_is_number [f, .int n] = some (.bl z)) : m_is_row [.tup [.str "test", d, e, f], .int n] = some (.bl (x && (y && z))) := by
  unfold m_is_row g_is_row
  walk_at "ew"
  simp [h1, h2, h3, dAll, bools]
theorem row_put (h1 : m_is_number [d, .int 2] = some (.bl x)) (h2 : m_is_number [e, .int 4] = some (.bl y)) : m_is_row [.tup [.str "put", d, e], .int n] = some (.bl (x && y)) := by
  unfold m_is_row g_is_row
  walk_at "ew"
  simp [h1, h2, dAll, bools]
theorem row_get (h1 : m_is_number [d, .int 4] = some (.bl x)) (h2 : m_is_number [e, .int 2] = some (.bl y)) : m_is_row [.tup [.str "get", d, e], .int n] = some (.bl (x && y)) := by
  unfold m_is_row g_is_row
  walk_at "ew"
  simp [h1, h2, dAll, bools]
theorem row_fence : m_is_row [.tup [.str "fence"], .int n] = some (.bl true) := by
  unfold m_is_row g_is_row
  walk_at "ew"
  rfl
theorem row_end : m_is_row [.tup [.str "end"], .int n] = some (.bl true) := by
  unfold m_is_row g_is_row
  walk_at "ew"
  rfl
theorem row_jump (h1 : m_is_number [d, .int n] = some (.bl x)) : m_is_row [.tup [.str "jump", d], .int n] = some (.bl x) := by
  unfold m_is_row g_is_row
  walk_at "ew"
  simp [h1, dAll, bools]
/-! spoiled rows -/
theorem row_nothing : m_is_row [.tup [.str "nothing"], .int n] = some (.bl false) := by
  unfold m_is_row g_is_row
  walk_at "ew"
theorem row_ask0 : m_is_row [.tup [.str "ask"], .int n] = some (.bl false) := by
  unfold m_is_row g_is_row
  walk_at "ew"
theorem row_lst {xs : List D} : m_is_row [.lst xs, .int n] = some (.bl false) := by
  unfold m_is_row g_is_row
  walk_at "ew"
theorem row_text {w : Str} : m_is_row [.str w, .int n] = some (.bl false) := by
  unfold m_is_row g_is_row
  walk_at "ew"
theorem row_none : m_is_row [.tup [], .int n] = some (.bl false) := by
  unfold m_is_row g_is_row
  walk_at "ew"
end
inductive RowV (n : Int) : List D → Prop
  | ask {a : Int} : 0 ≤ a → a < 4 → RowV n [.str "ask", .int a]
  | mix {a b c : Int} : 0 ≤ a → a < 4 → 0 ≤ b → b < 4 → 0 ≤ c → c < 4 → RowV n [.str "mix", .int a, .int b, .int c]
  | load {a b c : Int} : 0 ≤ a → a < 4 → 0 ≤ b → b < 2 → 0 ≤ c → c < 4 → RowV n [.str "load", .int a, .int b, .int c]
  | mask {a b c : Int} : 0 ≤ a → a < 4 → 0 ≤ b → b < 2 → 0 ≤ c → c < 4 → RowV n [.str "mask", .int a, .int b, .int c]
  | test {a b c : Int} : 0 ≤ a → a < 4 → 0 ≤ b → b < 2 → 0 ≤ c → c < n → RowV n [.str "test", .int a, .int b, .int c]
  | put {a b : Int} : 0 ≤ a → a < 2 → 0 ≤ b → b < 4 → RowV n [.str "put", .int a, .int b]
  | get {a b : Int} : 0 ≤ a → a < 4 → 0 ≤ b → b < 2 → RowV n [.str "get", .int a, .int b]
  | fence : RowV n [.str "fence"]
  | jump {a : Int} : 0 ≤ a → a < n → RowV n [.str "jump", .int a]
  | end_ : RowV n [.str "end"]
theorem num_ok {a b : Int} (h1 : 0 ≤ a) (h2 : a < b) : m_is_number [.int a, .int b] = some (.bl true) := by
  rw [is_number_int, decide_eq_true h1, decide_eq_true h2]
  rfl
theorem RowV.ok {n m : Int} {xs : List D} (h : RowV n xs) (hm : n ≤ m) : m_is_row [.tup xs, .int m] = some (.bl true) := by
  cases h with
  | ask h1 h2 => exact row_ask m (num_ok h1 h2)
  | mix h1 h2 h3 h4 h5 h6 => exact row_mix m (num_ok h1 h2) (num_ok h3 h4) (num_ok h5 h6)
  | load h1 h2 h3 h4 h5 h6 => exact row_load m (num_ok h1 h2) (num_ok h3 h4) (num_ok h5 h6)
  | mask h1 h2 h3 h4 h5 h6 => exact row_mask m (num_ok h1 h2) (num_ok h3 h4) (num_ok h5 h6)
  | test h1 h2 h3 h4 h5 h6 => exact row_test m (num_ok h1 h2) (num_ok h3 h4) (num_ok h5 (by omega))
  | put h1 h2 h3 h4 => exact row_put m (num_ok h1 h2) (num_ok h3 h4)
  | get h1 h2 h3 h4 => exact row_get m (num_ok h1 h2) (num_ok h3 h4)
  | fence => exact row_fence m
  | jump h1 h2 => exact row_jump m (num_ok h1 (by omega))
  | end_ => exact row_end m
theorem RowV.long {n m : Int} {xs : List D} (h : RowV n xs) : m_is_row [.tup (xs ++ [.int 0]), .int m] = some (.bl false) := by
  cases h <;> (unfold m_is_row g_is_row; walk_at "ew")
end K01

namespace K01
open PySem PySem.Spec PyProof.Rows L2 Mi
local macro_rules | `(tactic| walk_at "ev") => `(tactic| simp (decide := true) [v_def, kx_ask, kn_ask, kx_mix, kn_mix, kx_load, kn_load, kx_mask, kn_mask, kx_test, kn_test, kx_put, kn_put, kx_get, kn_get, kx_fence, kn_fence, kx_jump, kn_jump, kx_end, kn_end, kn_nothing])
local macro_rules | `(tactic| walk_at "ew") => `(tactic| simp (decide := true) [v_def, is_number_int, bound_r, bound_s, bound_A, bound_t, kx_ask, kn_ask, kx_mix, kn_mix, kx_load, kn_load, kx_mask, kn_mask, kx_test, kn_test, kx_put, kn_put, kx_get, kn_get, kx_fence, kn_fence, kx_jump, kn_jump, kx_end, kn_end, kn_nothing])
theorem are_rows_eq (ds : List D) (b : D → Bool) (hs : ∀ d ∈ ds, m_is_row [d, .int ds.length] = some (.bl (b d))) (h1 : 1 ≤ ds.length) (h2 : ds.length ≤ 32) (w : Str) (r : List D) (hl : ds[ds.length - 1]? = some (.tup (.str w :: r))) :
    m_are_rows [.tup ds] = some (.bl (ds.all b && (decide (("jump" : Str) = w) || decide (("end" : Str) = w)))) := by
  have e : lcF (gN 1) fYes (eA m_is_row (aCons (eVar 1) (aCons (eA (g1 dLen) (aCons (eVar 0) aNil)) aNil))) [some (.tup ds), none] ds = some (ds.map fun d => .bl (b d)) :=
    lcF_map _ ds fun d hd => ⟨[(1, d)], rfl, by
      have := hs d hd
      walk_at "ew"
      exact this⟩
  have hb2 : bools (ds.map fun d => D.bl (b d)) = some (ds.map b) := by
    have := bools_bl (ds.map b)
    rw [List.map_map] at this
    exact this
  have h1' : (1 : Int) ≤ ds.length := by omega
  have h2' : (ds.length : Int) ≤ 32 := by omega
  have hz : ds.length ≤ 50000 := by omega
  have h0 : 0 < ds.length := by omega
  have hl' := (atM h0).trans hl
  unfold m_are_rows g_are_rows
  walk_at "ew"
  simp [h1', h2', hz, e, dAll, hb2]
  by_cases hx : ∃ x, x ∈ ds ∧ b x = false
  · have ha : ds.all b = false := by
      obtain ⟨x, h3, h4⟩ := hx
      exact List.all_eq_false.mpr ⟨x, h3, by rw [h4]; exact Bool.false_ne_true⟩
    simp [hx, ha]
  · have ha : ds.all b = true := List.all_eq_true.mpr fun x hm => by
      cases hb : b x with
      | true => rfl
      | false => exact absurd ⟨x, hm, hb⟩ hx
    simp [hx, ha, hl']
theorem are_rows_long (ds : List D) (h2 : 32 < ds.length) : m_are_rows [.tup ds] = some (.bl false) := by
  have h1' : (1 : Int) ≤ ds.length := by omega
  have h2' : ¬ (ds.length : Int) ≤ 32 := by omega
  unfold m_are_rows g_are_rows
  walk_at "ew"
  simp [h1', h2']
theorem are_rows_nil : m_are_rows [.tup []] = some (.bl false) := by
  unfold m_are_rows g_are_rows
  walk_at "ew"
theorem are_rows_lst (ds : List D) : m_are_rows [.lst ds] = some (.bl false) := by
  unfold m_are_rows g_are_rows
  walk_at "ew"
def progD (s r : D) : D := .dK [(.inr "secret", s), (.inr "rows", r)]
theorem srt2 (s r : D) : dSortedD (progD s r) = some (.l [.str "rows", .str "secret"]) := by rfl
theorem srt1 (s : D) : dSortedD (.dK [(.inr "secret", s)]) = some (.l [.str "secret"]) := by rfl
theorem srt3 (s r x : D) : dSortedD (.dK [(.inr "secret", s), (.inr "rows", r), (.inr "more", x)]) = some (.l [.str "more", .str "rows", .str "secret"]) := by rfl
theorem ne2 : dNeP (.lst [.str "rows", .str "secret"]) (.lst [.str "rows", .str "secret"]) = some (.bl false) := by rfl
theorem ne1 : dNeP (.lst [.str "secret"]) (.lst [.str "rows", .str "secret"]) = some (.bl true) := by rfl
theorem ne3 : dNeP (.lst [.str "more", .str "rows", .str "secret"]) (.lst [.str "rows", .str "secret"]) = some (.bl true) := by rfl
theorem vs (s r : D) : valD [((.inr "secret" : Key), s), (.inr "rows", r)] (.inr "secret") = some s := by rfl
theorem vr (s r : D) : valD [((.inr "secret" : Key), s), (.inr "rows", r)] (.inr "rows") = some r := by rfl
theorem eqD2 : dEq (.lst [.str "rows", .str "secret"]) (.lst [.str "rows", .str "secret"]) = some (.bl true) := by rfl
theorem eqD1 : dEq (.lst [.str "secret"]) (.lst [.str "rows", .str "secret"]) = some (.bl false) := by rfl
theorem eqD3 : dEq (.lst [.str "more", .str "rows", .str "secret"]) (.lst [.str "rows", .str "secret"]) = some (.bl false) := by rfl
abbrev kRS : D := .lst [.str "rows", .str "secret"]
theorem hk2 {s r : D} : m_has_keys [progD s r, kRS] = some (.bl true) := by
  have e0 := srt2 s r
  unfold progD at e0 ⊢
  unfold m_has_keys g_has_keys
  simp (decide := true) [v_def, fKeys, keyD, flats, e0, eqD2, dAll, bools]
theorem hk1 {s : D} : m_has_keys [.dK [(.inr "secret", s)], kRS] = some (.bl false) := by
  unfold m_has_keys g_has_keys
  simp (decide := true) [v_def, fKeys, keyD, flats, srt1, eqD1, dAll, bools]
theorem hk3 {s r x : D} : m_has_keys [.dK [(.inr "secret", s), (.inr "rows", r), (.inr "more", x)], kRS] = some (.bl false) := by
  unfold m_has_keys g_has_keys
  simp (decide := true) [v_def, fKeys, keyD, flats, srt3, eqD3, dAll, bools]
theorem hkT {xs : List D} : m_has_keys [.tup xs, kRS] = some (.bl false) := by
  unfold m_has_keys g_has_keys
  simp (decide := true) [v_def]
theorem hkN : m_has_keys [.non, kRS] = some (.bl false) := by
  unfold m_has_keys g_has_keys
  simp (decide := true) [v_def]
theorem is_prog {s r : D} {x y : Bool} (h1 : m_is_ascending [s, .int 4] = some (.bl x)) (h2 : x = true → m_are_rows [r] = some (.bl y)) : m_is_program [progD s r] = some (.bl (x && y)) := by
  have e0 := hk2 (s := s) (r := r)
  unfold progD at e0 ⊢
  unfold m_is_program g_is_program
  simp (decide := true) [v_def, e0, vs, vr, h1]
  cases x with
  | true => simp [h2 rfl]
  | false => simp
theorem is_prog1 {s : D} : m_is_program [.dK [(.inr "secret", s)]] = some (.bl false) := by
  unfold m_is_program g_is_program
  simp (decide := true) [v_def, hk1]
theorem is_prog3 {s r x : D} : m_is_program [.dK [(.inr "secret", s), (.inr "rows", r), (.inr "more", x)]] = some (.bl false) := by
  unfold m_is_program g_is_program
  simp (decide := true) [v_def, hk3]
theorem is_progT {xs : List D} : m_is_program [.tup xs] = some (.bl false) := by
  unfold m_is_program g_is_program
  simp (decide := true) [v_def, hkT]
theorem is_progN : m_is_program [.non] = some (.bl false) := by
  unfold m_is_program g_is_program
  simp (decide := true) [v_def, hkN]
theorem asc21 : m_is_ascending [.tup [.int 2, .int 1], .int 4] = some (.bl false) := by rfl
theorem asc4 : m_is_ascending [.tup [.int 4], .int 4] = some (.bl false) := by rfl
theorem asc_ok (p : D → Bool) : m_is_ascending [.tup (List.filter p [.int 0, .int 1, .int 2, .int 3]), .int 4] = some (.bl true) := by
  simp only [List.filter]
  cases p (.int 0) <;> cases p (.int 1) <;> cases p (.int 2) <;> cases p (.int 3) <;> rfl
/-! the law's own helpers -/
def rd (t : List Int) (k : Int) : Int := t.getD k.toNat 0
theorem law_at (t : List Int) (k : Int) (h : 0 ≤ k) : m_law_at [.lst (t.map .int), .int k] = some (.int (rd t k)) := by
  unfold m_law_at g_law_at rd
  walk_at "ew"
  by_cases hk : k < (t.length : Int)
  · have hj : k.toNat < (t.map D.int).length := by rw [List.length_map]; omega
    have e := atN (xs := t.map D.int) hj
    rw [Int.toNat_of_nonneg h] at e
    have e3 : t[k.toNat]? = some t[k.toNat] := List.getElem?_eq_getElem (by omega)
    simp [hk, e, e3]
  · have e3 : t[k.toNat]? = none := List.getElem?_eq_none (by omega)
    simp [hk, e3]
theorem mod_cases {n : Int} {m : Nat} (hm : 0 < m) : ∃ j : Nat, j < m ∧ n % (m : Int) = (j : Int) := by
  refine ⟨(n % (m : Int)).toNat, ?_, ?_⟩
  · have := Int.emod_lt_of_pos n (show (0 : Int) < m by omega)
    have := Int.emod_nonneg n (show (m : Int) ≠ 0 by omega)
    omega
  · have := Int.emod_nonneg n (show (m : Int) ≠ 0 by omega)
    omega
theorem law_row (a b c m : Int) (hm : 0 < m) : ∃ xs, m_law_row [.int a, .int b, .int c, .int m] = some (.tup xs) ∧ RowV m xs := by
  have b1 := Int.emod_nonneg b (show (4 : Int) ≠ 0 by decide)
  have b2 := Int.emod_lt_of_pos b (show (0 : Int) < 4 by decide)
  have c1 := Int.emod_nonneg c (show (2 : Int) ≠ 0 by decide)
  have c2 := Int.emod_lt_of_pos c (show (0 : Int) < 2 by decide)
  have c3 := Int.emod_nonneg c (show (4 : Int) ≠ 0 by decide)
  have c4 := Int.emod_lt_of_pos c (show (0 : Int) < 4 by decide)
  have d1 := Int.emod_nonneg (b / 4) (show (4 : Int) ≠ 0 by decide)
  have d2 := Int.emod_lt_of_pos (b / 4) (show (0 : Int) < 4 by decide)
  have e1 := Int.emod_nonneg (b / 4 + c) (show m ≠ 0 by omega)
  have e2 := Int.emod_lt_of_pos (b / 4 + c) hm
  have f1 := Int.emod_nonneg (b + c) (show m ≠ 0 by omega)
  have f2 := Int.emod_lt_of_pos (b + c) hm
  obtain ⟨j, hj, hn⟩ := mod_cases (n := a) (m := 14) (by decide)
  have hn' : a % 14 = (j : Int) := hn
  have at_ : ∀ (xs : List D), xs.length = 14 → atI xs (a % 14) = xs[j]? := fun xs hx => by
    rw [hn', atN (by omega)]
  unfold m_law_row g_law_row
  walk_at "ew"
  rw [at_ _ rfl]
  match j, hj with
  | 0, _ => exact ⟨_, by walk_at "ew", .ask b1 b2⟩
  | 1, _ => exact ⟨_, by walk_at "ew", .mix b1 b2 d1 d2 c3 c4⟩
  | 2, _ => exact ⟨_, by walk_at "ew", .load b1 b2 c1 c2 d1 d2⟩
  | 3, _ => exact ⟨_, by walk_at "ew", .load b1 b2 c1 c2 d1 d2⟩
  | 4, _ => exact ⟨_, by walk_at "ew", .mask b1 b2 c1 c2 d1 d2⟩
  | 5, _ => exact ⟨_, by simp (decide := true) [hm], .test b1 b2 c1 c2 e1 e2⟩
  | 6, _ => exact ⟨_, by simp (decide := true) [hm], .test b1 b2 c1 c2 e1 e2⟩
  | 7, _ => exact ⟨_, by walk_at "ew", .put c1 c2 b1 b2⟩
  | 8, _ => exact ⟨_, by walk_at "ew", .get b1 b2 c1 c2⟩
  | 9, _ => exact ⟨_, by walk_at "ew", .get b1 b2 c1 c2⟩
  | 10, _ => exact ⟨_, by walk_at "ew", .fence⟩
  | 11, _ => exact ⟨_, by simp (decide := true) [hm], .jump f1 f2⟩
  | 12, _ => exact ⟨_, by walk_at "ew", .put c1 c2 b1 b2⟩
  | 13, _ => exact ⟨_, by walk_at "ew", .load b1 b2 c1 c2 d1 d2⟩
end K01

namespace K01
open PySem PySem.Spec PyProof.Rows L2 Mi
def Ran (t : List Int) : Prop := ∀ x ∈ t, 0 ≤ x ∧ x < 1000
theorem Ran.app {t : List Int} (h : Ran t) {x : Int} (h1 : 0 ≤ x) (h2 : x < 1000) : Ran (t ++ [x]) := fun y hy => by
  rcases List.mem_append.mp hy with hy | hy
  · exact h y hy
  · simp at hy; subst hy; exact ⟨h1, h2⟩
noncomputable abbrev b_t1 : FS := sIf (tB (e2 dGt (eVar 3) (eC (.int 0)))) (sSeq (sApp 1 (e2 dMod (eVar 3) (eC (.int 1000)))) (sAsg 3 (e2 dDiv (eVar 3) (eC (.int 1000))))) (sNext)
noncomputable abbrev b_t2 : FS := sSeq (sAsg 3 (e2 dMod (e2 dAdd (e2 dAdd (e2 dMul (eVar 3) (eC (.int 48271))) (e2 dMul (eC (.int 69621)) (e2 dAdd (eVar 2) (eC (.int 1))))) (e2 dMul (eC (.int 7)) (eVar 4))) (eC (.int 2147483647))))
  (sSeq (sAsg 3 (e2 dMod (e2 dMul (eVar 3) (eC (.int 16807))) (eC (.int 2147483647))))
  (sApp 1 (e2 dMod (e2 dDiv (eVar 3) (eC (.int 1000))) (eC (.int 1000)))))
noncomputable abbrev b_t : FS := sSeq (sAsg 3 (eA (g1 dAbs) (aCons (eA (g1 dInt) (aCons (e2 dIx (eVar 0) (eVar 2)) (aNil))) (aNil))))
  (sIf (tB (e2 dGe (eVar 3) (e2 dPow (eC (.int 10)) (eC (.int 18))))) (sFor (fRng1 (aCons (eC (.int 60)) (aNil))) (gN 4) b_t1) (sFor (fRng1 (aCons (eC (.int 4)) (aNil))) (gN 4) b_t2))
theorem tape_in1 (S : D) (A B : Slot) (v : Int) (t : List Int) (hr : Ran t) (N : Nat) (hN : t.length ≤ N) (hN2 : N + 60 < 100000) :
    ∃ ρ', forF (gN 4) b_t1 (rngD 0 60) [.sh S, .ow (.l (t.map .int)), A, .sh (.int v), B] = some (.nx ρ') ∧ ∃ t' v' b, ρ' = [.sh S, .ow (.l (t'.map .int)), A, .sh (.int v'), b] ∧ Ran t' ∧ t'.length ≤ N + 60 := by
  obtain ⟨ρ', e, t', v', b, h1, h2, h3⟩ := forF_inv (tg := gN 4) (body := b_t1) (fun i ρ => ∃ t' v' b, ρ = [.sh S, .ow (.l (List.map D.int t')), A, .sh (.int v'), b] ∧ Ran t' ∧ t'.length ≤ N + i) (rngD 0 60) 0 _ ⟨t, v, B, rfl, hr, hN⟩ (by
    rintro j ρ d hd ⟨t', v', b, rfl, h2, h3⟩
    have hj := (rngD_get hd).1
    have hl : t'.length < 100000 := by omega
    by_cases hv : 0 < v'
    · have m1 := Int.emod_nonneg v' (show (1000 : Int) ≠ 0 by decide)
      have m2 := Int.emod_lt_of_pos v' (show (0 : Int) < 1000 by decide)
      exact ⟨[(4, d)], [.sh S, .ow (.l ((t' ++ [v' % 1000]).map .int)), A, .sh (.int (v' / 1000)), .sh d], rfl, by simp (decide := true) [b_t1, hv, hl], t' ++ [v' % 1000], v' / 1000, .sh d, rfl, h2.app m1 m2, by simp; omega⟩
    · exact ⟨[(4, d)], [.sh S, .ow (.l (t'.map .int)), A, .sh (.int v'), .sh d], rfl, by simp (decide := true) [b_t1, hv, hl], t', v', .sh d, rfl, h2, by omega⟩)
  rw [rngD_len] at h3
  exact ⟨ρ', e, t', v', b, h1, h2, by omega⟩
theorem tape_in2 (S : D) (k : Int) (B : Slot) (v : Int) (t : List Int) (hr : Ran t) (N : Nat) (hN : t.length ≤ N) (hN2 : N + 60 < 100000) :
    ∃ ρ', forF (gN 4) b_t2 (rngD 0 4) [.sh S, .ow (.l (t.map .int)), .sh (.int k), .sh (.int v), B] = some (.nx ρ') ∧ ∃ t' v' b, ρ' = [.sh S, .ow (.l (t'.map .int)), .sh (.int k), .sh (.int v'), b] ∧ Ran t' ∧ t'.length ≤ N + 60 := by
  obtain ⟨ρ', e, t', v', b, h1, h2, h3⟩ := forF_inv (tg := gN 4) (body := b_t2) (fun i ρ => ∃ t' v' b, ρ = [.sh S, .ow (.l (List.map D.int t')), .sh (.int k), .sh (.int v'), b] ∧ Ran t' ∧ t'.length ≤ N + i) (rngD 0 4) 0 _ ⟨t, v, B, rfl, hr, hN⟩ (by
    rintro j ρ d hd ⟨t', v', b, rfl, h2, h3⟩
    obtain ⟨hj, rfl⟩ := rngD_get hd
    have hl : t'.length < 100000 := by omega
    exact ⟨[(4, .int (0 + j))], [.sh S, .ow (.l ((t' ++ [(v' * 48271 + 69621 * (k + 1) + 7 * (0 + j)) % 2147483647 * 16807 % 2147483647 / 1000 % 1000]).map .int)), .sh (.int k), .sh (.int ((v' * 48271 + 69621 * (k + 1) + 7 * (0 + j)) % 2147483647 * 16807 % 2147483647)), .sh (.int (0 + j))], rfl, by simp (decide := true) [b_t2, hl], _, _, _, rfl, h2.app (Int.emod_nonneg _ (by decide)) (Int.emod_lt_of_pos _ (by decide)), by simp; omega⟩)
  rw [rngD_len] at h3
  exact ⟨ρ', e, t', v', b, h1, h2, by omega⟩
theorem step_t (ns : List Int) (j : Nat) (hj : j < ns.length) (S : D) (hS : dIx S (.int j) = some (.int ns[j])) (t' : List Int) (a b c : Slot) (h2 : Ran t') (hN : 60 * j + 60 < 100000) (h3 : t'.length ≤ 60 * j) :
    ∃ ρ1, b_t [.sh S, .ow (.l (t'.map D.int)), .sh (.int j), b, c] = some (.nx ρ1) ∧ ∃ t1 v1 b1, ρ1 = [.sh S, .ow (.l (t1.map .int)), .sh (.int j), .sh (.int v1), b1] ∧ Ran t1 ∧ t1.length ≤ 60 * j + 60 := by
  obtain ⟨v, hab⟩ : ∃ v, dAbs (.int ns[j]) = some (.int v) := ⟨_, rfl⟩
  have hp : dPow (.int 10) (.int 18) = some (.int 1000000000000000000) := by rfl
  by_cases hv : 1000000000000000000 ≤ v
  · obtain ⟨ρ1, e1, q⟩ := tape_in1 S (.sh (.int j)) c v t' h2 (60 * j) (by omega) (by omega)
    have hw : dGe (.int v) (.int 1000000000000000000) = some (.bl true) := by
      show some (D.bl (decide _)) = _
      rw [decide_eq_true hv]
    exact ⟨ρ1, by simp [b_t, hS, hab, hw, e1, hp, -v_abs, -v_gI], q⟩
  · obtain ⟨ρ1, e1, q⟩ := tape_in2 S j c v t' h2 (60 * j) (by omega) (by omega)
    have hw : dGe (.int v) (.int 1000000000000000000) = some (.bl false) := by
      show some (D.bl (decide _)) = _
      rw [decide_eq_false hv]
    exact ⟨ρ1, by simp [b_t, hS, hab, hw, e1, hp, -v_abs, -v_gI], q⟩
theorem rng_ok {ρ : E} {fl : E → Option (List D)} (n : Nat) (hn : n ≤ 63) (h : fl ρ = some [.int n]) : fRng1 fl ρ = some (rngD 0 n) := by
  have h1 : -(2 ^ 62) ≤ (n : Int) := by omega
  have h2 : (n : Int) < 2 ^ 62 := by omega
  rw [v_rng1, h, Option.bind_some]
  simp only []
  rw [if_pos ⟨h1, h2⟩, Int.toNat_natCast]
theorem law_tape (ns : List Int) (hl : ns.length ≤ 63) : ∃ t, m_law_tape [.sl (ns.map .int)] = some (.lst (t.map .int)) ∧ Ran t := by
  obtain ⟨ρ', e, t', a, b, c, h1, h2, h3⟩ := forF_inv (tg := gN 2) (body := b_t) (fun i ρ => ∃ t' a b c, ρ = [.sh (.sl (ns.map D.int)), .ow (.l (List.map D.int t')), a, b, c] ∧ Ran t' ∧ t'.length ≤ 60 * i) (rngD 0 ns.length) 0 [.sh (.sl (ns.map D.int)), .ow (.l []), .no, .no, .no] ⟨[], .no, .no, .no, rfl, fun x hx => absurd hx (List.not_mem_nil), by simp⟩ (by
    rintro j ρ d hd ⟨t', a, b, c, rfl, h2, h3⟩
    obtain ⟨hj, rfl⟩ := rngD_get hd
    rw [Int.zero_add] at *
    have hat : atI (ns.map D.int) (j : Int) = some (.int ns[j]) := by
      rw [atN (by rw [List.length_map]; exact hj), List.getElem?_map, List.getElem?_eq_getElem hj]
      rfl
    obtain ⟨ρ1, e1, t1, v1, b1, q1, q2, q3⟩ := step_t ns j hj (.sl (ns.map D.int)) hat t' a b c h2 (by omega) (by omega)
    exact ⟨[(2, .int j)], ρ1, rfl, e1, t1, _, _, _, q1, q2, by omega⟩)
  refine ⟨t', ?_, h2⟩
  subst h1
  have hr := rng_ok (ρ := [some (.sl (ns.map D.int)), none, none, none, none]) (fl := aCons (eA (g1 dLen) (aCons (eVar 0) aNil)) aNil) ns.length hl (by simp)
  unfold m_law_tape g_law_tape
  simp [v_def, hr, e, frz, -v_rng1]
end K01

namespace K01
open PySem PySem.Spec PyProof.Rows L2 Mi
noncomputable abbrev b_p : FS := sApp 3 (eA m_law_row (aCons (eA m_law_at (aCons (eVar 0) (aCons (e2 dAdd (e2 dAdd (eVar 1) (e2 dMul (eC (.int 3)) (eVar 4))) (eC (.int 1))) (aNil)))) (aCons (eA m_law_at (aCons (eVar 0) (aCons (e2 dAdd (e2 dAdd (eVar 1) (e2 dMul (eC (.int 3)) (eVar 4))) (eC (.int 2))) (aNil)))) (aCons (eA m_law_at (aCons (eVar 0) (aCons (e2 dAdd (e2 dAdd (eVar 1) (e2 dMul (eC (.int 3)) (eVar 4))) (eC (.int 3))) (aNil)))) (aCons (eVar 2) (aNil))))))
theorem prog_loop (t : List Int) (m : Nat) (hm : 2 ≤ m) (hm2 : m ≤ 11) :
    ∃ ρ', forF (gN 4) b_p (rngD 0 (m - 1)) [.sh (.lst (t.map .int)), .sh (.int 4), .sh (.int m), .ow (.l []), .no, .no, .no] = some (.nx ρ') ∧ ∃ (xss : List (List D)) (b : Slot), ρ' = [.sh (.lst (t.map .int)), .sh (.int 4), .sh (.int m), .ow (.l (xss.map .tup)), b, .no, .no] ∧ (∀ xs ∈ xss, RowV m xs) ∧ xss.length = m - 1 := by
  obtain ⟨ρ', e, xss, b, h1, h2, h3⟩ := forF_inv (tg := gN 4) (body := b_p) (fun i ρ => ∃ (xss : List (List D)) (b : Slot), ρ = [.sh (.lst (t.map D.int)), .sh (.int 4), .sh (.int m), .ow (.l (xss.map D.tup)), b, .no, .no] ∧ (∀ xs ∈ xss, RowV m xs) ∧ xss.length = i) (rngD 0 (m - 1)) 0 _ ⟨[], .no, rfl, fun x hx => absurd hx (List.not_mem_nil), rfl⟩ (by
    rintro j ρ d hd ⟨xss, b, rfl, h2, h3⟩
    obtain ⟨hj, rfl⟩ := rngD_get hd
    rw [Int.zero_add] at *
    obtain ⟨xs, ex, rx⟩ := law_row (rd t (4 + 3 * (j : Int) + 1)) (rd t (4 + 3 * (j : Int) + 2)) (rd t (4 + 3 * (j : Int) + 3)) m (by omega)
    have a1 := law_at t (4 + 3 * (j : Int) + 1) (by omega)
    have a2 := law_at t (4 + 3 * (j : Int) + 2) (by omega)
    have a3 := law_at t (4 + 3 * (j : Int) + 3) (by omega)
    have hl : xss.length < 100000 := by omega
    refine ⟨[(4, .int j)], [.sh (.lst (t.map .int)), .sh (.int 4), .sh (.int m), .ow (.l ((xss ++ [xs]).map .tup)), .sh (.int j), .no, .no], rfl, ?_, xss ++ [xs], .sh (.int j), rfl, ?_, by simp; omega⟩
    · simp (decide := true) [b_p, a1, a2, a3, ex, hl]
    · intro ys hy
      rcases List.mem_append.mp hy with hy | hy
      · exact h2 ys hy
      · simp at hy; subst hy; exact rx)
  rw [rngD_len, Nat.zero_add] at h3
  exact ⟨ρ', e, xss, b, h1, h2, h3⟩
theorem rng4 : rngD 0 4 = [.int 0, .int 1, .int 2, .int 3] := by rfl
theorem divmod_ok (x r : Int) (h0 : 0 < r) (h1 : r < 5) : (dDiv (.int x) (.int r)).bind (fun a => dMod a (.int 3)) = some (.int (x / r % 3)) := by
  have h : r < 1073741824 := by omega
  simp [h0, h]
theorem law_program (t : List Int) : ∃ (p : D → Bool) (xss : List (List D)) (ini : List (List D)) (w : Str) (r : List D), m_law_program [.lst (t.map .int), .int 4] = some (progD (.tup (List.filter p [.int 0, .int 1, .int 2, .int 3])) (.tup (xss.map .tup))) ∧ (2 ≤ xss.length ∧ xss.length ≤ 11) ∧ (∀ xs ∈ xss, RowV xss.length xs) ∧ xss = ini ++ [.str w :: r] ∧ (w = "end" ∨ w = "jump") := by
  obtain ⟨i, hi, ei⟩ := mod_cases (n := rd t 4) (m := 10) (by decide)
  obtain ⟨ρ', e, xss, b, rfl, h2, h3⟩ := prog_loop t (2 + i) (by omega) (by omega)
  have a0 := law_at t 4 (by decide)
  have a1 := law_at t 5 (by decide)
  have a2 := law_at t 6 (by decide)
  have hm0 : (0 : Int) < 2 + (i : Int) := by omega
  have f1 := Int.emod_nonneg (rd t 4) (show (2 + (i : Int)) ≠ 0 by omega)
  have f2 := Int.emod_lt_of_pos (rd t 4) hm0
  obtain ⟨last, hl, hv⟩ : ∃ l : List D, ∃ w r, (l = .str w :: r ∧ (w = "end" ∨ w = "jump") ∧ RowV (2 + (i : Nat) : Nat) l) ∧ atI [D.tup [.str "end"], .tup [.str "jump", .int (rd t 4 % (2 + (i : Int)))], .tup [.str "end"]] (rd t 5 % 3) = some (.tup l) := by
    obtain ⟨k, hk, ek⟩ := mod_cases (n := rd t 5) (m := 3) (by decide)
    have ek' : rd t 5 % 3 = (k : Int) := ek
    rw [ek', atN (by simp; exact hk)]
    match k, hk with
    | 0, _ => exact ⟨_, _, _, ⟨rfl, .inl rfl, .end_⟩, rfl⟩
    | 1, _ => exact ⟨_, _, _, ⟨rfl, .inr rfl, .jump f1 (by push_cast; exact f2)⟩, rfl⟩
    | 2, _ => exact ⟨_, _, _, ⟨rfl, .inl rfl, .end_⟩, rfl⟩
  obtain ⟨r, ⟨rfl, hw, hv⟩, hat⟩ := hv
  have hxl : xss.length < 100000 := by omega
  have rng_ok2 : fRng1 (aCons (e2 dSub (eVar 2) (eC (.int 1))) aNil) [some (.lst (t.map .int)), some (.int 4), some (.int (2 + (i : Int))), none, none, none, none] = some (rngD 0 (1 + i)) := rng_ok (1 + i) (by omega) (by simp; omega)
  have rng_ok3 : ∀ ρ, fRng1 (aCons (eC (.int 4)) aNil) ρ = some [.int 0, .int 1, .int 2, .int 3] := fun ρ => (rng_ok 4 (by decide) (by simp)).trans (congrArg some rng4)
  refine ⟨fun d => match d with
    | .int k => decide (rd t 6 / (k + 1) % 3 = 0)
    | _ => false, xss ++ [.str hl :: r], xss, hl, r, ?_, ⟨by simp; omega, by simp; omega⟩, ?_, rfl, hw⟩
  · have ec : lcF (gN 6) (tB (e2 dEq (e2 dMod (e2 dDiv (eA m_law_at (aCons (eVar 0) (aCons (e2 dAdd (eVar 1) (eC (.int 2))) (aNil)))) (e2 dAdd (eVar 6) (eC (.int 1)))) (eC (.int 3))) (eC (.int 0)))) (eVar 6) [some (.lst (t.map .int)), some (.int 4), some (.int (2 + (i : Int))), none, b.hid, none, none] [.int 0, .int 1, .int 2, .int 3] = some (List.filter (fun d => match d with
      | .int k => decide (rd t 6 / (k + 1) % 3 = 0)
      | _ => false) [.int 0, .int 1, .int 2, .int 3]) := by
      rw [lcF_eq (fun d => match d with
        | .int k => decide (rd t 6 / (k + 1) % 3 = 0)
        | _ => false) id [.int 0, .int 1, .int 2, .int 3] fun d hd => by
        simp at hd
        refine ⟨[(6, d)], rfl, ?_, fun _ => by simp⟩
        rcases hd with rfl | rfl | rfl | rfl <;> simp [a2], List.map_id]
    have e' : forF (gN 4) b_p (rngD 0 (1 + i)) [.sh (.lst (t.map .int)), .sh (.int 4), .sh (.int (2 + (i : Int))), .ow (.l []), .no, .no, .no] = some (.nx [.sh (.lst (t.map .int)), .sh (.int 4), .sh (.int (2 + (i : Int))), .ow (.l (xss.map .tup)), b, .no, .no]) := by
      have q := e
      rw [show 2 + i - 1 = 1 + i by omega] at q
      push_cast at q
      exact q
    have ei' : rd t 4 % 10 = (i : Int) := ei
    unfold m_law_program g_law_program
    simp [v_def, a0, a1, ei', -v_rng1, rng_ok2, e', hm0, hat, hxl, rng_ok3, ec, frz, -v_lcF]
    rfl
  · intro xs hx
    have hc : (xss ++ [.str hl :: r]).length = 2 + i := by simp; omega
    rw [hc]
    rcases List.mem_append.mp hx with hx | hx
    · exact h2 xs hx
    · simp at hx; subst hx; exact hv
end K01

namespace K01
open PySem PySem.Spec PyProof.Rows L2 Mi
theorem are_rows_bad (ds : List D) (hs : ∀ d ∈ ds, ∃ x, m_is_row [d, .int ds.length] = some (.bl x)) (hf : ∃ d ∈ ds, m_is_row [d, .int ds.length] = some (.bl false)) (h1 : 1 ≤ ds.length) (h2 : ds.length ≤ 32) :
    m_are_rows [.tup ds] = some (.bl false) := by
  obtain ⟨b, hb⟩ : ∃ b : D → Bool, ∀ d ∈ ds, m_is_row [d, .int ds.length] = some (.bl (b d)) := by
    refine ⟨fun d => match m_is_row [d, .int ds.length] with
      | some (.bl x) => x
      | _ => false, fun d hd => ?_⟩
    obtain ⟨x, e⟩ := hs d hd
    simp only [e]
  have e : lcF (gN 1) fYes (eA m_is_row (aCons (eVar 1) (aCons (eA (g1 dLen) (aCons (eVar 0) aNil)) aNil))) [some (.tup ds), none] ds = some (ds.map fun d => .bl (b d)) :=
    lcF_map _ ds fun d hd => ⟨[(1, d)], rfl, by
      have := hb d hd
      simp (decide := true)
      exact this⟩
  have hb2 : bools (ds.map fun d => D.bl (b d)) = some (ds.map b) := by
    have := bools_bl (ds.map b)
    rw [List.map_map] at this
    exact this
  have h1' : (1 : Int) ≤ ds.length := by omega
  have h2' : (ds.length : Int) ≤ 32 := by omega
  have hz : ds.length ≤ 50000 := by omega
  have hx : ∃ x, x ∈ ds ∧ b x = false := by
    obtain ⟨d, hd, e2⟩ := hf
    refine ⟨d, hd, ?_⟩
    have e3 := (hb d hd).symm.trans e2
    injection e3 with e3
    injection e3
  unfold m_are_rows g_are_rows
  simp (decide := true) [v_def, h1', h2', hz, e, dAll, hb2, hx]
theorem made (s r : D) : m_law_made [s, r] = some (progD s r) := by rfl
def Odd (d : D) : Prop := m_is_number [d, .int 4] = some (.bl false) ∧ m_is_number [d, .int 2] = some (.bl false)
theorem odd_ok (n : Int) : ∃ d, (dIx (.lst [.int 4, .int (-1), .bl true, .non, .str "0", .int 9]) (.int (n % 6))) = some d ∧ Odd d := by
  obtain ⟨k, hk, ek⟩ := mod_cases (n := n) (m := 6) (by decide)
  have ek' : n % 6 = (k : Int) := ek
  rw [ek', v_ix2, atN (by simp; exact hk)]
  match k, hk with
  | 0, _ => exact ⟨_, rfl, by rfl, by rfl⟩
  | 1, _ => exact ⟨_, rfl, by rfl, by rfl⟩
  | 2, _ => exact ⟨_, rfl, by rfl, by rfl⟩
  | 3, _ => exact ⟨_, rfl, by rfl, by rfl⟩
  | 4, _ => exact ⟨_, rfl, by rfl, by rfl⟩
  | 5, _ => exact ⟨_, rfl, by rfl, by rfl⟩
section
variable (s : D) (R : List D) (n : Nat) (odd : D) (a : Int)
theorem prog_bad_rows {r : D} (hs : m_is_ascending [s, .int 4] = some (.bl true)) (h : m_are_rows [r] = some (.bl false)) : m_is_program [progD s r] = some (.bl false) := is_prog hs fun _ => h
theorem prog_bad_sec {r : D} (hs : m_is_ascending [s, .int 4] = some (.bl false)) : m_is_program [progD s r] = some (.bl false) := is_prog (y := false) hs fun h => absurd h (by decide)
def badL (odd : D) (n : Int) : List D := [.tup [.str "ask", odd], .tup [.str "mix", .int 0, .int 0, odd], .tup [.str "load", .int 0, .int 2, .int 0], .tup [.str "load", .int 0, .int 0, odd], .tup [.str "mask", .int 0, .int (-1), .int 0], .tup [.str "test", .int 0, .int 0, .int (n + 1)], .tup [.str "put", .int 2, .int 0], .tup [.str "get", .int 0, odd], .tup [.str "jump", .int (-1)], .tup [.str "nothing"], .tup [.str "ask"], .lst [.str "ask", .int 0], .str "ask", .tup [], .tup [.str "test", odd, .int 0, .int 0]]
theorem bad_ok (ho : Odd odd) (hn : 0 ≤ n) : ∃ d, atI (badL odd n) (a % 15) = some d ∧ m_is_row [d, .int (n + 1)] = some (.bl false) := by
  obtain ⟨k, hk, ek⟩ := mod_cases (n := a) (m := 15) (by decide)
  have ek' : a % 15 = (k : Int) := ek
  have z4 : m_is_number [.int 0, .int 4] = some (.bl true) := by rfl
  have z2 : m_is_number [.int 0, .int 2] = some (.bl true) := by rfl
  have t2 : m_is_number [.int 2, .int 2] = some (.bl false) := by rfl
  have m2 : m_is_number [.int (-1), .int 2] = some (.bl false) := by rfl
  have mn : m_is_number [.int (-1), .int ((n : Int) + 1)] = some (.bl false) := by
    rw [is_number_int]; rfl
  have zn : m_is_number [.int 0, .int ((n : Int) + 1)] = some (.bl true) := num_ok (by decide) (by omega)
  have nn : m_is_number [.int ((n : Int) + 1), .int ((n : Int) + 1)] = some (.bl false) := by
    rw [is_number_int, decide_eq_false (show ¬ (n : Int) + 1 < (n : Int) + 1 by omega)]
    simp
  rw [ek', atN (by unfold badL; simp; exact hk)]
  match k, hk with
  | 0, _ => exact ⟨_, rfl, row_ask _ ho.1⟩
  | 1, _ => exact ⟨_, rfl, row_mix _ z4 z4 ho.1⟩
  | 2, _ => exact ⟨_, rfl, row_load _ z4 t2 z4⟩
  | 3, _ => exact ⟨_, rfl, row_load _ z4 z2 ho.1⟩
  | 4, _ => exact ⟨_, rfl, row_mask _ z4 m2 z4⟩
  | 5, _ => exact ⟨_, rfl, row_test _ z4 z2 nn⟩
  | 6, _ => exact ⟨_, rfl, row_put _ t2 z4⟩
  | 7, _ => exact ⟨_, rfl, row_get _ z4 ho.2⟩
  | 8, _ => exact ⟨_, rfl, row_jump _ mn⟩
  | 9, _ => exact ⟨_, rfl, row_nothing _⟩
  | 10, _ => exact ⟨_, rfl, row_ask0 _⟩
  | 11, _ => exact ⟨_, rfl, row_lst _⟩
  | 12, _ => exact ⟨_, rfl, row_text _⟩
  | 13, _ => exact ⟨_, rfl, row_none _⟩
  | 14, _ => exact ⟨_, rfl, row_test _ ho.1 z2 zn⟩
theorem spoil (hs : m_is_ascending [s, .int 4] = some (.bl true)) (hR : ∀ d ∈ R, ∃ xs, d = .tup xs ∧ RowV R.length xs) (h1 : 2 ≤ R.length) (h2 : R.length ≤ 11) (ho : Odd odd) (q : Int) :
    ∃ d, m_law_spoiled [progD s (.tup R), .int (q % 14), .int a, odd] = some d ∧ m_is_program [d] = some (.bl false) := by
  obtain ⟨k, hk, ek⟩ := mod_cases (n := q) (m := 14) (by decide)
  have ek' : q % 14 = (k : Int) := ek
  rw [ek']
  obtain ⟨j, hj, ej⟩ := mod_cases (n := a) (m := R.length) (by omega)
  obtain ⟨xs, ex, rx⟩ := hR R[j] (List.getElem_mem hj)
  obtain ⟨i3, hi3, e3⟩ := mod_cases (n := a) (m := 3) (by decide)
  have e3' : a % 3 = (i3 : Int) := e3
  have hat : atI R (j : Int) = some (.tup xs) := by rw [atN hj, List.getElem?_eq_getElem hj, ex]
  have hn0 : (0 : Int) < R.length := by omega
  have hmod : dMod (.int a) (.int R.length) = some (.int j) := by
    show (if decide ((0 : Int) < R.length) = true then some (D.int (a % R.length)) else none) = _
    rw [decide_eq_true hn0, if_pos rfl, ej]
  have hc1 : cutD R none (some (j : Int)) = R.take j := cut_to j
  have hc2 : cutD R (some ((j : Int) + 1)) none = R.drop (j + 1) := by
    have := cut_from (l := R) (j + 1)
    push_cast at this
    exact this
  have hok : ∀ d ∈ R, ∀ m : Int, (R.length : Int) ≤ m → m_is_row [d, .int m] = some (.bl true) := fun d hd m hm => by
    obtain ⟨xs, rfl, rv⟩ := hR d hd
    exact rv.ok hm
  have hz1 : xs.length + 1 ≤ 100000 := by
    cases rx <;> simp
  have hl : ∀ d : D, (d :: R).length = R.length + 1 := fun d => List.length_cons
  have hasc2 : m_is_ascending [.tup [.int 2, .int 1], .int 4] = some (.bl false) := asc21
  have hasc4 : m_is_ascending [.tup [.int 4], .int 4] = some (.bl false) := asc4
  have hz2 : R.length + 1 ≤ 100000 := by omega
  have hz3 : 1 + R.length ≤ 100000 := by omega
  have hz4 : 32 + R.length ≤ 100000 := by omega
  have hz5 : min j R.length + 1 ≤ 100000 := by omega
  have hz6 : min j R.length + 1 + (R.length - (j + 1)) ≤ 100000 := by omega
  match k, hk with
  | 0, _ =>
    refine ⟨progD s (.tup (R.take j ++ [.tup (xs ++ [.int 0])] ++ R.drop (j + 1))), ?_, prog_bad_rows s hs ?_⟩
    · unfold m_law_spoiled g_law_spoiled progD
      simp (decide := true) [v_def, vs, vr, made, hat, hmod, hc1, hc2, hz1, hz5, hz6, -v_gI]
      rfl
    · have hlen : (R.take j ++ [D.tup (xs ++ [.int 0])] ++ R.drop (j + 1)).length = R.length := by simp; omega
      refine are_rows_bad _ (fun d hd => ?_) ⟨.tup (xs ++ [.int 0]), by simp, rx.long⟩ (by omega) (by omega)
      rcases List.mem_append.mp hd with hd | hd
      · rcases List.mem_append.mp hd with hd | hd
        · exact ⟨true, hok d (List.mem_of_mem_take hd) _ (by omega)⟩
        · simp at hd; subst hd; exact ⟨false, rx.long⟩
      · exact ⟨true, hok d (List.mem_of_mem_drop hd) _ (by omega)⟩
  | 1, _ =>
    refine ⟨progD s (.tup (R ++ [.tup [.str "ask", .int 0]])), ?_, prog_bad_rows s hs ?_⟩
    · unfold m_law_spoiled g_law_spoiled progD
      simp (decide := true) [v_def, vs, vr, made, hat, hmod, hz2, -v_gI]
      rfl
    · have e := are_rows_eq (R ++ [.tup [.str "ask", .int 0]]) (fun _ => true) (fun d hd => by
        rcases List.mem_append.mp hd with hd | hd
        · exact hok d hd _ (by simp; omega)
        · simp at hd; subst hd; exact row_ask _ (by rfl)) (by simp) (by simp; omega) "ask" [.int 0] (by simp)
      rw [e]
      simp (decide := true)
  | 2, _ =>
    refine ⟨progD s (.tup (List.replicate 32 (.tup [.str "fence"]) ++ R)), ?_, prog_bad_rows s hs (are_rows_long _ (by simp; omega))⟩
    unfold m_law_spoiled g_law_spoiled progD
    simp (decide := true) [v_def, vs, vr, made, hat, hmod, hz4, -v_gI]
    rfl
  | 3, _ =>
    refine ⟨progD s (.lst R), ?_, prog_bad_rows s hs (are_rows_lst _)⟩
    unfold m_law_spoiled g_law_spoiled progD
    simp (decide := true) [v_def, vs, vr, made, hat, hmod, hz4, -v_gI]
    rfl
  | 4, _ =>
    refine ⟨progD (.tup [.int 2, .int 1]) (.tup R), ?_, prog_bad_sec _ asc21⟩
    unfold m_law_spoiled g_law_spoiled progD
    simp (decide := true) [v_def, vs, vr, made, hat, hmod, hz4, -v_gI]
    rfl
  | 5, _ =>
    refine ⟨progD (.tup [.int 4]) (.tup R), ?_, prog_bad_sec _ asc4⟩
    unfold m_law_spoiled g_law_spoiled progD
    simp (decide := true) [v_def, vs, vr, made, hat, hmod, hz4, -v_gI]
    rfl
  | 6, _ =>
    refine ⟨progD s (.tup []), ?_, prog_bad_rows s hs are_rows_nil⟩
    unfold m_law_spoiled g_law_spoiled progD
    simp (decide := true) [v_def, vs, vr, made, hat, hmod, hz4, -v_gI]
    rfl
  | 7, _ =>
    match i3, hi3 with
    | 0, _ =>
      refine ⟨.tup [s, .tup R], ?_, is_progT⟩
      unfold m_law_spoiled g_law_spoiled progD
      simp (decide := true) [v_def, vs, vr, made, hat, hmod, e3']
    | 1, _ =>
      refine ⟨.dK [(.inr "secret", s)], ?_, is_prog1⟩
      unfold m_law_spoiled g_law_spoiled progD
      simp (decide := true) [v_def, vs, vr, made, hat, hmod, e3']
      rfl
    | 2, _ =>
      refine ⟨.dK [(.inr "secret", s), (.inr "rows", .tup R), (.inr "more", .int 1)], ?_, is_prog3⟩
      unfold m_law_spoiled g_law_spoiled progD
      simp (decide := true) [v_def, vs, vr, made, hat, hmod, e3']
      rfl
  | k + 8, _ =>
    obtain ⟨d, ed, bd⟩ := bad_ok R.length odd a ho (by omega)
    have e15 : dMod (.int a) (.int 15) = some (.int (a % 15)) := by rfl
    have hq : ∀ c : Int, 0 ≤ c → c ≤ 7 → dEq (.int ((k + 8 : Nat) : Int)) (.int c) = some (.bl false) := fun c _ _ => by
      rw [v_eqI, decide_eq_false (by omega)]
    have q0 := hq 0 (by decide) (by decide)
    have q1 := hq 1 (by decide) (by decide)
    have q2 := hq 2 (by decide) (by decide)
    have q3 := hq 3 (by decide) (by decide)
    have q4 := hq 4 (by decide) (by decide)
    have q5 := hq 5 (by decide) (by decide)
    have q6 := hq 6 (by decide) (by decide)
    have q7 := hq 7 (by decide) (by decide)
    unfold badL at ed
    refine ⟨progD s (.tup (d :: R)), ?_, prog_bad_rows s hs (are_rows_bad _ (fun x hx => ?_) ⟨d, by simp, by rw [hl]; push_cast; exact bd⟩ (by simp) (by simp; omega))⟩
    · generalize ((k + 8 : Nat) : Int) = q at q0 q1 q2 q3 q4 q5 q6 q7 ⊢
      unfold m_law_spoiled g_law_spoiled progD
      simp (decide := true) [v_def, vs, vr, made, hat, hmod, q0, q1, q2, q3, q4, q5, q6, q7, e15, ed, hz3, hz2, -v_gI, -v_eqI]
      rfl
    · rw [hl]
      push_cast
      rcases List.mem_cons.mp hx with rfl | hx
      · exact ⟨false, bd⟩
      · exact ⟨true, hok x hx _ (by omega)⟩
end
end K01

namespace Mi
open PySem PySem.Spec PyProof.Rows L2
theorem sames_of : ∀ ds : List D, (∀ d ∈ ds, same d d = true) → sames ds ds = true
  | [], _ => rfl
  | d :: ds, h => by
    unfold sames
    rw [h d (by simp), sames_of ds fun x hx => h x (by simp [hx])]
    rfl
theorem deps_le {k : Nat} : ∀ ds : List D, (∀ d ∈ ds, dep d ≤ k) → deps ds ≤ k
  | [], _ => Nat.zero_le _
  | d :: ds, h => by
    unfold deps
    exact Nat.max_le.mpr ⟨h d (by simp), deps_le ds fun x hx => h x (by simp [hx])⟩
def Fine (k : Nat) (d : D) : Prop := same d d = true ∧ dep d ≤ k
theorem fine_int (n : Int) (k : Nat) : Fine k (.int n) := ⟨by simp [same], Nat.zero_le _⟩
theorem fine_str (n : Str) (k : Nat) : Fine k (.str n) := ⟨by simp [same], Nat.zero_le _⟩
theorem fine_tup {ds : List D} {k : Nat} (h : ∀ d ∈ ds, Fine k d) : Fine (k + 1) (.tup ds) := ⟨by
  show sames ds ds = true
  exact sames_of ds fun d hd => (h d hd).1, Nat.succ_le_succ (deps_le ds fun d hd => (h d hd).2)⟩
theorem Fine.up {d : D} {k m : Nat} (h : Fine k d) (hm : k ≤ m) : Fine m d := ⟨h.1, Nat.le_trans h.2 hm⟩
theorem pys_ints : ∀ ns : List Int, pys? (ns.map D.int) = some (ns.map PyData.int)
  | [] => rfl
  | n :: ns => by
    show (D.py? (.int n)).bind _ = _
    rw [pys_ints ns]
    rfl
theorem eqvAll_ints : ∀ ns : List Int, PyData.eqvAll (ns.map PyData.int) (ns.map PyData.int) = true
  | [] => rfl
  | n :: ns => by
    show (n == n && PyData.eqvAll (ns.map PyData.int) (ns.map PyData.int)) = true
    rw [eqvAll_ints ns]
    simp
theorem depthAll_ints : ∀ ns : List Int, PyData.depthAll (ns.map PyData.int) = 0
  | [] => rfl
  | n :: ns => by
    show max 0 (PyData.depthAll (ns.map PyData.int)) = 0
    rw [depthAll_ints ns]
    rfl
theorem eq_ints (ns : List Int) : dEq (.lst (ns.map .int)) (.lst (ns.map .int)) = some (.bl true) := by
  have e : bEq (.lst (ns.map .int)) (.lst (ns.map .int)) = some true := by
    unfold bEq
    simp only [D.flat?, D.py?, pys_ints, Option.map_some]
    have h : (PyData.list (ns.map PyData.int)).depth ≤ 60 := by
      show PyData.depthAll (ns.map PyData.int) + 1 ≤ 60
      rw [depthAll_ints]
      decide
    rw [if_pos h]
    show some (PyData.eqvAll (ns.map PyData.int) (ns.map PyData.int)) = _
    rw [eqvAll_ints]
  unfold dEq
  rw [e]
  rfl
end Mi
namespace K01
open PySem PySem.Spec PyProof.Rows L2 Mi
theorem eq_prog {s r : D} (h1 : Fine 1 s) (h2 : Fine 2 r) : dEq (progD s r) (progD s r) = some (.bl true) := by
  have hs : same (progD s r) (progD s r) = true := by
    unfold progD
    simp [Mi.same, Mi.sameK, h1.1, h2.1]
  have hd : dep (progD s r) ≤ 3 := by
    have a := h1.2
    have b := h2.2
    unfold progD
    simp only [dep, depK]
    omega
  have hd0 : 0 < dep (progD s r) := by
    unfold progD
    simp only [dep]
    omega
  have e : bEq (progD s r) (progD s r) = some true := by
    have f : (progD s r).flat? = none := rfl
    have g : (progD s r).py? = none := rfl
    unfold bEq
    rw [f, g]
    show (if _ then some true else none) = _
    rw [if_pos ⟨hs, by omega, hd0⟩]
  unfold dEq
  rw [e]
  rfl
/-! a target moved -/
def tgt (F : List Int) (t : Int) : Int := t + ((F.filter fun x => decide (x < t)).length : Nat)
theorem filter_ints (F : List Int) (t : Int) : List.filter (fun d => match d with
      | .int k => decide (k < t)
      | _ => false) (F.map D.int) = (F.filter fun x => decide (x < t)).map D.int := by
  rw [List.filter_map]
  rfl
theorem fenced_target (F : List Int) (hF : F.length ≤ 50000) (t : Int) : m_fenced_target [.int t, .lst (F.map .int)] = some (.int (tgt F t)) := by
  have e : lcF (gN 2) (tB (e2 dLt (eVar 2) (eVar 0))) (eVar 2) [some (.int t), some (.lst (F.map .int)), none] (F.map .int) = some ((F.filter fun x => decide (x < t)).map D.int) := by
    rw [lcF_eq (fun d => match d with
      | .int k => decide (k < t)
      | _ => false) id (F.map D.int) fun d hd => by
        obtain ⟨x, _, rfl⟩ := List.mem_map.mp hd
        exact ⟨[(2, .int x)], rfl, by simp, fun _ => by simp⟩, List.map_id, filter_ints]
  have hl : (List.filter (fun x => decide (x < t)) F).length ≤ 50000 := Nat.le_trans (List.length_filter_le ..) hF
  unfold m_fenced_target g_fenced_target tgt
  simp [v_def, e, hF]
theorem law_moved (F : List Int) (hF : F.length ≤ 50000) (t : Int) : m_law_moved [.int t, .lst (F.map .int)] = some (.int (tgt F t)) := fenced_target F hF t
inductive FRow (n : Int) (F : List Int) : List D → List D → Prop
  | test {a b : D} {t : Int} : Fine 0 a → Fine 0 b → FRow n F [.str "test", a, b, .int t] [.str "test", a, b, .int (tgt F t)]
  | jump {t : Int} : FRow n F [.str "jump", .int t] [.str "jump", .int (tgt F t)]
  | other {w : Str} {r : List D} : w ≠ "test" → w ≠ "jump" → (∀ d ∈ r, Fine 0 d) → FRow n F (.str w :: r) (.str w :: r)
theorem RowV.frow {n : Int} {F xs : List D} {G : List Int} (h : RowV n xs) : ∃ ys, FRow n G xs ys := by
  have z : ∀ l : List Int, ∀ d ∈ l.map D.int, Fine 0 d := fun l d hd => by
    obtain ⟨x, _, rfl⟩ := List.mem_map.mp hd
    exact fine_int x 0
  cases h with
  | @ask a _ _ => exact ⟨_, .other (by decide) (by decide) (z [a])⟩
  | @mix a b c _ _ _ _ _ _ => exact ⟨_, .other (by decide) (by decide) (z [a, b, c])⟩
  | @load a b c _ _ _ _ _ _ => exact ⟨_, .other (by decide) (by decide) (z [a, b, c])⟩
  | @mask a b c _ _ _ _ _ _ => exact ⟨_, .other (by decide) (by decide) (z [a, b, c])⟩
  | test _ _ _ _ _ _ => exact ⟨_, .test (fine_int _ 0) (fine_int _ 0)⟩
  | @put a b _ _ _ _ => exact ⟨_, .other (by decide) (by decide) (z [a, b])⟩
  | @get a b _ _ _ _ => exact ⟨_, .other (by decide) (by decide) (z [a, b])⟩
  | fence => exact ⟨_, .other (by decide) (by decide) (z [])⟩
  | jump _ _ => exact ⟨_, .jump⟩
  | end_ => exact ⟨_, .other (by decide) (by decide) (z [])⟩
theorem FRow.fine {n : Int} {F : List Int} {xs ys : List D} (h : FRow n F xs ys) : Fine 1 (.tup ys) := by
  cases h with
  | test h1 h2 =>
    exact fine_tup fun d hd => by
      simp at hd
      rcases hd with rfl | rfl | rfl | rfl
      · exact fine_str _ 0
      · exact h1
      · exact h2
      · exact fine_int _ 0
  | jump =>
    exact fine_tup fun d hd => by
      simp at hd
      rcases hd with rfl | rfl
      · exact fine_str _ 0
      · exact fine_int _ 0
  | other _ _ h =>
    exact fine_tup fun d hd => by
      rcases List.mem_cons.mp hd with rfl | hd
      · exact fine_str _ 0
      · exact h d hd
theorem FRow.fenced {n : Int} {F : List Int} {xs ys : List D} (hF : F.length ≤ 50000) (h : FRow n F xs ys) : m_fenced_row [.tup xs, .lst (F.map .int)] = some (.tup ys) := by
  unfold m_fenced_row g_fenced_row
  cases h with
  | test h1 h2 => simp (decide := true) [v_def, fenced_target F hF]
  | jump => simp (decide := true) [v_def, fenced_target F hF]
  | other h1 h2 h => simp (decide := true) [v_def, h1, h2]
noncomputable abbrev b_f : FS := sSeq (sAsg 4 (e2 dIx (e2 dIx (eVar 0) (eC (.str "rows"))) (eVar 3)))
  (sSeq (sIf (tB (e2 dIn (e2 dIx (eVar 4) (eC (.int 0))) (fTup (aCons (eC (.str "test")) (aCons (eC (.str "jump")) (aNil)))))) (sAsg 4 (e2 dAdd (eSl (eVar 4) (fNoP) (fPart (e1 dNeg (eC (.int 1))))) (fTup (aCons (eA m_law_moved (aCons (e2 dIx (eVar 4) (e1 dNeg (eC (.int 1)))) (aCons (eVar 1) (aNil)))) (aNil))))) (sNext))
  (sApp 2 (eVar 4)))
theorem FRow.law {n : Int} {F : List Int} {xs ys : List D} (hF : F.length ≤ 50000) (h : FRow n F xs ys) {s : D} {R acc : List D} {k : Nat} {b : Slot} (hk : R[k]? = some (.tup xs)) (ha : acc.length < 100000) :
    b_f [.sh (progD s (.tup R)), .sh (.lst (F.map .int)), .ow (.l acc), .sh (.int k), b] = some (.nx [.sh (progD s (.tup R)), .sh (.lst (F.map .int)), .ow (.l (acc ++ [.tup ys])), .sh (.int k), .sh (.tup ys)]) := by
  have hat : atI R (k : Int) = some (.tup xs) := by
    rw [atN (List.getElem?_eq_some_iff.mp hk).1, hk]
  have hm : ∀ l : List D, ∀ x : D, atI (l ++ [x]) (-1) = some x := fun l x => by
    rw [atM (by simp)]; simp
  unfold progD
  cases h with
  | @test a' b' t h1 h2 =>
    have := hm [.str "test", a', b'] (.int t)
    simp at this
    simp (decide := true) [b_f, vr, hat, this, law_moved F hF, ha]
  | @jump t =>
    have := hm [.str "jump"] (.int t)
    simp at this
    simp (decide := true) [b_f, vr, hat, this, law_moved F hF, ha]
  | other h1 h2 h =>
    simp (decide := true) [b_f, vr, hat, h1.symm, h2.symm, Ne.symm h1, Ne.symm h2, ha]
end K01

namespace K01
open PySem PySem.Spec PyProof.Rows L2 Mi
def intsR (n : Nat) : List Int := (List.range n).map fun (i : Nat) => (0 : Int) + (i : Int)
theorem rng_ints (n : Nat) : rngD 0 n = (intsR n).map D.int := by
  unfold rngD intsR
  rw [List.map_map]
  rfl
theorem filter_P (P : Int → Bool) (l : List Int) : List.filter (fun d => match d with
      | .int k => P k
      | _ => false) (l.map D.int) = (l.filter P).map D.int := by
  rw [List.filter_map]
  rfl
theorem rev_filter (P : Int → Bool) (l : List Int) : l.filter (fun k => (l.filter P).reverse.contains k) = l.filter P := by
  refine List.filter_congr fun x hx => ?_
  rw [Bool.eq_iff_iff, List.contains_iff_mem, List.mem_reverse, List.mem_filter]
  exact ⟨fun h => h.2, fun h => ⟨hx, h⟩⟩
theorem lc_P {tg : FG} {fc : E → Option Bool} {fe : FE} {ρ : E} (P : Int → Bool) (l : List Int) (h : ∀ x ∈ l, ∃ ws, tg (.int x) = some ws ∧ fc (putE ρ ws) = some (P x) ∧ fe (putE ρ ws) = some (.int x)) : lcF tg fc fe ρ (l.map D.int) = some ((l.filter P).map D.int) := by
  rw [lcF_eq (fun d => match d with
    | .int k => P k
    | _ => false) id (l.map D.int) fun d hd => by
      obtain ⟨x, hx, rfl⟩ := List.mem_map.mp hd
      obtain ⟨ws, h1, h2, h3⟩ := h x hx
      exact ⟨ws, h1, h2, fun _ => h3⟩, List.map_id, filter_P]
/-! the rows with fences -/
def yth (Y : List (List D)) (i : Nat) : List D := Y.getD i []
def accF (F : List Int) (Y : List (List D)) : Nat → List D
  | 0 => []
  | i + 1 => accF F Y i ++ (if F.contains (i : Int) = true then [.tup [.str "fence"]] else []) ++ [.tup (yth Y i)]
theorem accF_succ (F : List Int) (Y : List (List D)) (i : Nat) : accF F Y (i + 1) = accF F Y i ++ (if F.contains (i : Int) = true then [.tup [.str "fence"]] else []) ++ [.tup (yth Y i)] := rfl
theorem accF_len (F : List Int) (Y : List (List D)) : ∀ i, (accF F Y i).length ≤ 2 * i
  | 0 => by simp [accF]
  | i + 1 => by
    have := accF_len F Y i
    unfold accF
    split <;> simp <;> omega
theorem accF_fine {F : List Int} {Y : List (List D)} (h : ∀ i, Fine 1 (.tup (yth Y i))) : ∀ i, ∀ d ∈ accF F Y i, Fine 1 d
  | 0, d, hd => by simp [accF] at hd
  | i + 1, d, hd => by
    unfold accF at hd
    rcases List.mem_append.mp hd with hd | hd
    · rcases List.mem_append.mp hd with hd | hd
      · exact accF_fine h i d hd
      · split at hd
        · simp at hd; subst hd
          exact fine_tup fun d hd => by
            simp at hd; subst hd; exact fine_str _ 0
        · simp at hd
    · simp at hd; subst hd; exact h i
theorem rows_Y {n : Int} {F : List Int} : ∀ R : List D, (∀ d ∈ R, ∃ xs, d = .tup xs ∧ RowV n xs) → ∃ Y : List (List D), (∀ i, Fine 1 (.tup (yth Y i))) ∧ ∀ k d, R[k]? = some d → ∃ xs, d = .tup xs ∧ FRow n F xs (yth Y k)
  | [], _ => ⟨[], fun i => fine_tup fun d hd => by simp [yth] at hd, fun k d h => by simp at h⟩
  | d :: R, h => by
    obtain ⟨Y, h1, h2⟩ := rows_Y (F := F) R fun x hx => h x (by simp [hx])
    obtain ⟨xs, rfl, rv⟩ := h d (by simp)
    obtain ⟨ys, fr⟩ := rv.frow (F := []) (G := F)
    refine ⟨ys :: Y, fun i => ?_, fun k d hk => ?_⟩
    · cases i with
      | zero => exact fr.fine
      | succ i => exact h1 i
    · cases k with
      | zero => cases hk; exact ⟨xs, rfl, fr⟩
      | succ k => exact h2 k d (by simpa using hk)
noncomputable abbrev b_w : FS := sSeq (sIf (tB (e2 dIn (eVar 5) (eVar 3))) (sApp 4 (fTup (aCons (eC (.str "fence")) (aNil)))) (sNext))
  (sApp 4 (eA m_fenced_row (aCons (eVar 6) (aCons (eVar 3) (aNil)))))
section
variable {n : Int} {F G : List Int} {R : List D} {Y : List (List D)} {s : D}
theorem w_loop (hR : R.length ≤ 11) (hF : F.length ≤ 11) (h : ∀ k d, R[k]? = some d → ∃ xs, d = .tup xs ∧ FRow n F xs (yth Y k)) (Pr Pl : D) :
    ∃ a b, forF (gT (gsC (gN 5) (gsC (gN 6) gsN))) b_w (enumD 0 R) [.sh Pr, .sh Pl, .sh (.tup R), .sh (.lst (F.map .int)), .ow (.l []), .no, .no] = some (.nx [.sh Pr, .sh Pl, .sh (.tup R), .sh (.lst (F.map .int)), .ow (.l (accF F Y R.length)), a, b]) := by
  obtain ⟨ρ', e, a, b, h1⟩ := forF_inv (tg := gT (gsC (gN 5) (gsC (gN 6) gsN))) (body := b_w) (fun i ρ => ∃ a b, ρ = [.sh Pr, .sh Pl, .sh (.tup R), .sh (.lst (F.map .int)), .ow (.l (accF F Y i)), a, b]) (enumD 0 R) 0 [.sh Pr, .sh Pl, .sh (.tup R), .sh (.lst (F.map .int)), .ow (.l []), .no, .no] ⟨.no, .no, rfl⟩ (by
    rintro j ρ d hd ⟨a, b, rfl⟩
    obtain ⟨x, hx, rfl⟩ := enumD_get R 0 j d hd
    obtain ⟨xs, rfl, fr⟩ := h j x hx
    have hj := (List.getElem?_eq_some_iff.mp hx).1
    have hl := accF_len F Y j
    rw [Nat.zero_add]
    have hl2 : (accF F Y j).length < 100000 := by omega
    have hl3 : (accF F Y j).length + 1 < 100000 := by omega
    have ef := fr.fenced (by omega)
    refine ⟨[(5, .int (j : Int)), (6, .tup xs)], [.sh Pr, .sh Pl, .sh (.tup R), .sh (.lst (F.map .int)), .ow (.l (accF F Y (j + 1))), .sh (.int j), .sh (.tup xs)], rfl, ?_, .sh (.int j), .sh (.tup xs), rfl⟩
    rw [accF_succ]
    by_cases hc : F.contains (j : Int) = true
    · simp (decide := true) [b_w, hc, hl2, hl3, ef, -List.contains_eq_mem]
    · rw [Bool.not_eq_true] at hc
      simp (decide := true) [b_w, hc, hl2, hl3, ef, -List.contains_eq_mem])
  rw [enumD_len, Nat.zero_add] at h1
  exact ⟨a, b, by rw [e, h1]⟩
noncomputable abbrev b_lf : FS := sSeq (sIf (tB (e2 dIn (eVar 3) (eVar 1))) (sApp 2 (fTup (aCons (eC (.str "fence")) (aNil)))) (sNext)) b_f
theorem l_loop (hR : R.length ≤ 11) (hF : F.length ≤ 11) (h : ∀ k d, R[k]? = some d → ∃ xs, d = .tup xs ∧ FRow n F xs (yth Y k)) :
    ∃ a b, forF (gN 3) b_lf (rngD 0 R.length) [.sh (progD s (.tup R)), .sh (.lst (F.map .int)), .ow (.l []), .no, .no] = some (.nx [.sh (progD s (.tup R)), .sh (.lst (F.map .int)), .ow (.l (accF F Y R.length)), a, b]) := by
  obtain ⟨ρ', e, a, b, h1⟩ := forF_inv (tg := gN 3) (body := b_lf) (fun i ρ => ∃ a b, ρ = [.sh (progD s (.tup R)), .sh (.lst (F.map .int)), .ow (.l (accF F Y i)), a, b]) (rngD 0 R.length) 0 [.sh (progD s (.tup R)), .sh (.lst (F.map .int)), .ow (.l []), .no, .no] ⟨.no, .no, rfl⟩ (by
    rintro j ρ d hd ⟨a, b, rfl⟩
    obtain ⟨hj, rfl⟩ := rngD_get hd
    obtain ⟨xs, hx, fr⟩ := h j R[j] (List.getElem?_eq_getElem hj)
    have hl := accF_len F Y j
    rw [Nat.zero_add, Int.zero_add]
    have hl2 : (accF F Y j).length < 100000 := by omega
    have hg : R[j]? = some (.tup xs) := by rw [List.getElem?_eq_getElem hj, hx]
    refine ⟨[(3, .int (j : Int))], [.sh (progD s (.tup R)), .sh (.lst (F.map .int)), .ow (.l (accF F Y (j + 1))), .sh (.int j), .sh (.tup (yth Y j))], rfl, ?_, .sh (.int j), .sh (.tup (yth Y j)), rfl⟩
    rw [accF_succ]
    by_cases hc : F.contains (j : Int) = true
    · have el := fr.law (by omega) (s := s) (R := R) (acc := accF F Y j ++ [.tup [.str "fence"]]) (k := j) (b := b) hg (by simp; omega)
      have ei : (sIf (tB (e2 dIn (eVar 3) (eVar 1))) (sApp 2 (fTup (aCons (eC (.str "fence")) (aNil)))) (sNext)) [.sh (progD s (.tup R)), .sh (.lst (F.map .int)), .ow (.l (accF F Y j)), .sh (.int j), b] = some (.nx [.sh (progD s (.tup R)), .sh (.lst (F.map .int)), .ow (.l (accF F Y j ++ [.tup [.str "fence"]])), .sh (.int j), b]) := by
        simp (decide := true) [hc, hl2, -List.contains_eq_mem]
      rw [if_pos hc]
      show b_lf [.sh (progD s (.tup R)), .sh (.lst (F.map .int)), .ow (.l (accF F Y j)), .sh (.int j), b] = _
      rw [show b_lf = sSeq _ b_f from rfl, v_seq, ei, Option.bind_some]
      exact el
    · rw [Bool.not_eq_true] at hc
      have el := fr.law (by omega) (s := s) (R := R) (acc := accF F Y j) (k := j) (b := b) hg (by omega)
      have ei : (sIf (tB (e2 dIn (eVar 3) (eVar 1))) (sApp 2 (fTup (aCons (eC (.str "fence")) (aNil)))) (sNext)) [.sh (progD s (.tup R)), .sh (.lst (F.map .int)), .ow (.l (accF F Y j)), .sh (.int j), b] = some (.nx [.sh (progD s (.tup R)), .sh (.lst (F.map .int)), .ow (.l (accF F Y j)), .sh (.int j), b]) := by
        simp (decide := true) [hc, hl2, -List.contains_eq_mem]
      rw [hc, if_neg (by decide), List.append_nil]
      show b_lf [.sh (progD s (.tup R)), .sh (.lst (F.map .int)), .ow (.l (accF F Y j)), .sh (.int j), b] = _
      rw [show b_lf = sSeq _ b_f from rfl, v_seq, ei, Option.bind_some]
      exact el)
  rw [rngD_len, Nat.zero_add] at h1
  exact ⟨a, b, by rw [e, h1]⟩
theorem with_fences (P : Int → Bool) (hR : R.length ≤ 11) (h : ∀ k d, R[k]? = some d → ∃ xs, d = .tup xs ∧ FRow n ((intsR R.length).filter P) xs (yth Y k)) :
    m_with_fences [progD s (.tup R), .lst (((intsR R.length).filter P).map D.int).reverse] = some (progD s (.tup (accF ((intsR R.length).filter P) Y R.length))) := by
  have hF : ((intsR R.length).filter P).length ≤ 11 := Nat.le_trans (List.length_filter_le ..) (by simp [intsR]; exact hR)
  obtain ⟨a, b, e⟩ := w_loop (n := n) (F := (intsR R.length).filter P) (Y := Y) hR hF h (progD s (.tup R)) (.lst (((intsR R.length).filter P).map D.int).reverse)
  have er : fRng1 (aCons (eA (g1 dLen) (aCons (eVar 2) aNil)) aNil) [some (progD s (.tup R)), some (.lst (((intsR R.length).filter P).map D.int).reverse), some (.tup R), none, none, none, none] = some ((intsR R.length).map D.int) := (rng_ok R.length (by omega) (by simp)).trans (congrArg some (rng_ints _))
  have ec : lcF (gN 5) (tB (e2 dIn (eVar 5) (eVar 1))) (eVar 5) [some (progD s (.tup R)), some (.lst (((intsR R.length).filter P).map D.int).reverse), some (.tup R), none, none, none, none] ((intsR R.length).map D.int) = some (((intsR R.length).filter P).map D.int) := by
    rw [lc_P (fun k => ((intsR R.length).filter P).reverse.contains k) (intsR R.length) fun x hx => ⟨[(5, .int x)], rfl, by
      rw [← List.map_reverse]
      simp [-List.contains_eq_mem, -List.map_reverse], by simp⟩, rev_filter]
  have hl : (intsR R.length).length ≤ 50000 := by simp [intsR]; omega
  unfold progD at er ec e ⊢
  generalize (((intsR R.length).filter P).map D.int).reverse = W at er ec e ⊢
  unfold m_with_fences g_with_fences
  simp [v_def, vs, vr, er, ec, hl, e, frz, -v_rng1]
  rfl
theorem law_fenced (hR : R.length ≤ 11) (hF : F.length ≤ 11) (h : ∀ k d, R[k]? = some d → ∃ xs, d = .tup xs ∧ FRow n F xs (yth Y k)) :
    m_law_fenced [progD s (.tup R), .lst (F.map D.int)] = some (progD s (.tup (accF F Y R.length))) := by
  obtain ⟨a, b, e⟩ := l_loop (n := n) (s := s) hR hF h
  have er : fRng1 (aCons (eA (g1 dLen) (aCons (e2 dIx (eVar 0) (eC (.str "rows"))) aNil)) aNil) [some (progD s (.tup R)), some (.lst (F.map D.int)), none, none, none] = some (rngD 0 R.length) := rng_ok R.length (by omega) (by unfold progD; simp [vr])
  unfold progD at er e ⊢
  unfold m_law_fenced g_law_fenced
  simp [v_def, vs, vr, er, e, frz, -v_rng1]
  rfl
end
end K01

namespace K01
open PySem PySem.Spec PyProof.Rows L2 Mi
noncomputable abbrev b_law : FS := sSeq (sAsg 8 (eA m_law_spoiled (aCons (eVar 2) (aCons (e2 dMod (e2 dAdd (eA m_law_at (aCons (eVar 1) (aCons (eC (.int 0)) (aNil)))) (e2 dMul (eC (.int 5)) (eVar 4))) (eC (.int 14))) (aCons (e2 dAdd (eA m_law_at (aCons (eVar 1) (aCons (eC (.int 1)) (aNil)))) (eVar 4)) (aCons (eVar 3) (aNil)))))))
  (sIf (tB (e2 dIsn (eA m_is_program (aCons (eVar 8) (aNil))) (eC (.bl false)))) (sRet (eC (.bl false))) (sNext))
theorem spoil_loop (S : D) (t : List Int) (s : D) (R : List D) (odd : D) (hs : m_is_ascending [s, .int 4] = some (.bl true)) (hR : ∀ d ∈ R, ∃ xs, d = .tup xs ∧ RowV R.length xs) (h1 : 2 ≤ R.length) (h2 : R.length ≤ 11) (ho : Odd odd) :
    ∃ a b, forF (gN 4) b_law (rngD 0 4) [.sh S, .sh (.lst (t.map .int)), .sh (progD s (.tup R)), .sh odd, .no, .no, .no, .no, .no] = some (.nx [.sh S, .sh (.lst (t.map .int)), .sh (progD s (.tup R)), .sh odd, a, .no, .no, .no, b]) := by
  obtain ⟨ρ', e, a, b, h3⟩ := forF_inv (tg := gN 4) (body := b_law) (fun i ρ => ∃ a b, ρ = [.sh S, .sh (.lst (t.map D.int)), .sh (progD s (.tup R)), .sh odd, a, .no, .no, .no, b]) (rngD 0 4) 0 [.sh S, .sh (.lst (t.map D.int)), .sh (progD s (.tup R)), .sh odd, .no, .no, .no, .no, .no] ⟨.no, .no, rfl⟩ (by
    rintro j ρ d hd ⟨a, b, rfl⟩
    obtain ⟨hj, rfl⟩ := rngD_get hd
    rw [Int.zero_add]
    obtain ⟨d, e1, e2⟩ := spoil s R odd (rd t 1 + j) hs hR h1 h2 ho (rd t 0 + 5 * j)
    have a0 := law_at t 0 (by decide)
    have a1 := law_at t 1 (by decide)
    exact ⟨[(4, .int j)], [.sh S, .sh (.lst (t.map D.int)), .sh (progD s (.tup R)), .sh odd, .sh (.int j), .no, .no, .no, .sh d], rfl, by simp (decide := true) [b_law, a0, a1, e1, e2], .sh (.int j), .sh d, rfl⟩)
  exact ⟨a, b, by rw [e, h3]⟩
theorem law_all (ns : List Int) (h : ns.length ≤ 63) : m_law [.sl (ns.map .int)] = some (.bl true) := by
  obtain ⟨t, et, rt⟩ := law_tape ns h
  obtain ⟨p, xss, ini, w, r, ep, ⟨h1, h2⟩, hv, hx, hw⟩ := law_program t
  have hfl : Fine 1 (.tup (List.filter p [.int 0, .int 1, .int 2, .int 3])) := fine_tup fun d hd => by
    have := (List.mem_filter.mp hd).1
    simp at this
    rcases this with rfl | rfl | rfl | rfl <;> exact fine_int _ 0
  have hs := asc_ok p
  generalize D.tup (List.filter p [.int 0, .int 1, .int 2, .int 3]) = s at ep hfl hs
  obtain ⟨R, hRd⟩ : ∃ R, R = xss.map D.tup := ⟨_, rfl⟩
  have hRl : R.length = xss.length := by rw [hRd, List.length_map]
  have hR : ∀ d ∈ R, ∃ xs, d = .tup xs ∧ RowV R.length xs := fun d hd => by
    rw [hRd] at hd
    obtain ⟨xs, hm, rfl⟩ := List.mem_map.mp hd
    rw [hRl]
    exact ⟨xs, rfl, hv xs hm⟩
  have hlast : R[R.length - 1]? = some (.tup (.str w :: r)) := by
    rw [hRd, hx]; simp
  rw [← hRd] at ep
  rw [← hRl] at h1 h2
  clear hRl hRd hv hx
  have eprog : m_is_program [progD s (.tup R)] = some (.bl true) := is_prog hs fun _ => by
    rw [are_rows_eq R (fun _ => true) (fun d hd => by
      obtain ⟨xs, rfl, rv⟩ := hR d hd
      exact rv.ok (Int.le_refl _)) (by omega) (by omega) w r hlast]
    rcases hw with rfl | rfl <;> simp (decide := true)
  obtain ⟨odd, eo, ho⟩ := odd_ok (rd t 2)
  obtain ⟨a, b, el⟩ := spoil_loop (.sl (ns.map .int)) t s R odd hs hR h1 h2 ho
  have a3 := law_at t 3 (by decide)
  have a2 := law_at t 2 (by decide)
  obtain ⟨P, hP⟩ : ∃ P : Int → Bool, P = fun k => decide (rd t 3 / (k + 1) % 3 = 0) := ⟨_, rfl⟩
  have hF : ((intsR R.length).filter P).length ≤ 11 := Nat.le_trans (List.length_filter_le ..) (by simp [intsR]; exact h2)
  obtain ⟨Y, y1, y2⟩ := rows_Y (F := (intsR R.length).filter P) R hR
  have ew := with_fences (s := s) P h2 y2
  have elf := law_fenced (s := s) h2 hF y2
  have hfr : Fine 2 (.tup (accF ((intsR R.length).filter P) Y R.length)) := fine_tup (accF_fine y1 _)
  have eeq := eq_prog hfl hfr
  have erng : fRng1 (aCons (eA (g1 dLen) (aCons (e2 dIx (eVar 2) (eC (.str "rows"))) aNil)) aNil) [some (.sl (ns.map .int)), some (.lst (t.map .int)), some (progD s (.tup R)), some odd, a.hid, none, none, none, b.hid] = some ((intsR R.length).map D.int) := (rng_ok R.length (by omega) (by unfold progD; simp [vr])).trans (congrArg some (rng_ints _))
  have er4 : ∀ ρ, fRng1 (aCons (eC (.int 4)) aNil) ρ = some (rngD 0 4) := fun ρ => rng_ok 4 (by decide) (by simp)
  have hl : (intsR R.length).length ≤ 50000 := by simp [intsR]; omega
  have ec : lcF (gN 4) (tB (e2 dEq (e2 dMod (e2 dDiv (eA m_law_at (aCons (eVar 1) (aCons (eC (.int 3)) (aNil)))) (e2 dAdd (eVar 4) (eC (.int 1)))) (eC (.int 3))) (eC (.int 0)))) (eVar 4) [some (.sl (ns.map .int)), some (.lst (t.map .int)), some (progD s (.tup R)), some odd, none, none, none, none, b.hid] ((intsR R.length).map D.int) = some (((intsR R.length).filter P).map D.int) := lc_P P (intsR R.length) fun x hx => by
    have hx2 : 0 ≤ x ∧ x < 12 := by
      unfold intsR at hx
      obtain ⟨i, hi, rfl⟩ := List.mem_map.mp hx
      have := List.mem_range.mp hi
      omega
    have q1 : 0 < x + 1 := by omega
    have q2 : x + 1 < 1073741824 := by omega
    exact ⟨[(4, .int x)], rfl, by simp [a3, q1, q2, hP], by simp⟩
  have edr := eq_ints ((intsR R.length).filter P).reverse
  rw [List.map_reverse] at edr
  obtain ⟨W, hW⟩ : ∃ W, W = ((intsR R.length).filter P).map D.int := ⟨_, rfl⟩
  rw [← hW] at ew elf ec edr
  obtain ⟨Z, hZ⟩ : ∃ Z, Z = progD s (.tup (accF ((intsR R.length).filter P) Y R.length)) := ⟨_, rfl⟩
  rw [← hZ] at ew elf eeq
  obtain ⟨Q, hQ⟩ : ∃ Q, Q = progD s (.tup R) := ⟨_, rfl⟩
  rw [← hQ] at ep eprog el erng ec ew elf
  have isN := is_progN
  have e14 : dNeP (.tup [.int 4, .int 2, .int 2, .int 32]) (.tup [.int 4, .int 2, .int 2, .int 32]) = some (.bl false) := by rfl
  unfold m_law g_law
  simp [v_def, et, ep, eprog, e14, a2, eo, er4, el, erng, hl, ec, ew, elf, eeq, edr, isN, -v_rng1, -v_ix2]
end K01

namespace K01
open PySem PySem.Spec PyProof.Rows L2 Mi
theorem all_mk {l : PySem.W.OpenLaw} {w : World} {K : PySem.W.Frag} {h : Heap} {mg : Str → Option Value} {fa : Addr} (X : K.In h) (G : h.Ns mainGlobals mg) (hfa : mg "law" = some (.ref fa))
    {f0 : Addr} {od0 an0 : Option Addr} {sl0 : Array (Option Value)} {oc0 kV0 dc0 pm0 cd0 ct0 : Value}
    (a0 : PySem.W.nsIn K mainGlobals "_law_tape" = some (some (.ref f0))) (l0 : K.lookup f0 = some ⟨oc0, od0, .func (PySem.W.fnOf "_law_tape" "_law_tape" (defArgs s_law_tape) (defBody s_law_tape) (defScope s_law_tape) .none kV0 dc0 pm0 an0 cd0 ct0), sl0⟩) (c0 : PySem.W.codeIn K cd0 "_law_tape" = true) (k0 : PySem.W.keepIn K (.ref f0) = true)
    {f1 : Addr} {od1 an1 : Option Addr} {sl1 : Array (Option Value)} {oc1 kV1 dc1 pm1 cd1 ct1 : Value}
    (a1 : PySem.W.nsIn K mainGlobals "_law_at" = some (some (.ref f1))) (l1 : K.lookup f1 = some ⟨oc1, od1, .func (PySem.W.fnOf "_law_at" "_law_at" (defArgs s_law_at) (defBody s_law_at) (defScope s_law_at) .none kV1 dc1 pm1 an1 cd1 ct1), sl1⟩) (c1 : PySem.W.codeIn K cd1 "_law_at" = true) (k1 : PySem.W.keepIn K (.ref f1) = true)
    {f2 : Addr} {od2 an2 : Option Addr} {sl2 : Array (Option Value)} {oc2 kV2 dc2 pm2 cd2 ct2 : Value}
    (a2 : PySem.W.nsIn K mainGlobals "_law_row" = some (some (.ref f2))) (l2 : K.lookup f2 = some ⟨oc2, od2, .func (PySem.W.fnOf "_law_row" "_law_row" (defArgs s_law_row) (defBody s_law_row) (defScope s_law_row) .none kV2 dc2 pm2 an2 cd2 ct2), sl2⟩) (c2 : PySem.W.codeIn K cd2 "_law_row" = true) (k2 : PySem.W.keepIn K (.ref f2) = true)
    {f3 : Addr} {od3 an3 : Option Addr} {sl3 : Array (Option Value)} {oc3 kV3 dc3 pm3 cd3 ct3 : Value}
    (a3 : PySem.W.nsIn K mainGlobals "_law_program" = some (some (.ref f3))) (l3 : K.lookup f3 = some ⟨oc3, od3, .func (PySem.W.fnOf "_law_program" "_law_program" (defArgs s_law_program) (defBody s_law_program) (defScope s_law_program) .none kV3 dc3 pm3 an3 cd3 ct3), sl3⟩) (c3 : PySem.W.codeIn K cd3 "_law_program" = true) (k3 : PySem.W.keepIn K (.ref f3) = true)
    {f4 : Addr} {od4 an4 : Option Addr} {sl4 : Array (Option Value)} {oc4 kV4 dc4 pm4 cd4 ct4 : Value}
    (a4 : PySem.W.nsIn K mainGlobals "fenced_target" = some (some (.ref f4))) (l4 : K.lookup f4 = some ⟨oc4, od4, .func (PySem.W.fnOf "fenced_target" "fenced_target" (defArgs s_fenced_target) (defBody s_fenced_target) (defScope s_fenced_target) .none kV4 dc4 pm4 an4 cd4 ct4), sl4⟩) (c4 : PySem.W.codeIn K cd4 "fenced_target" = true) (k4 : PySem.W.keepIn K (.ref f4) = true)
    {f5 : Addr} {od5 an5 : Option Addr} {sl5 : Array (Option Value)} {oc5 kV5 dc5 pm5 cd5 ct5 : Value}
    (a5 : PySem.W.nsIn K mainGlobals "fenced_row" = some (some (.ref f5))) (l5 : K.lookup f5 = some ⟨oc5, od5, .func (PySem.W.fnOf "fenced_row" "fenced_row" (defArgs s_fenced_row) (defBody s_fenced_row) (defScope s_fenced_row) .none kV5 dc5 pm5 an5 cd5 ct5), sl5⟩) (c5 : PySem.W.codeIn K cd5 "fenced_row" = true) (k5 : PySem.W.keepIn K (.ref f5) = true)
    {f6 : Addr} {od6 an6 : Option Addr} {sl6 : Array (Option Value)} {oc6 kV6 dc6 pm6 cd6 ct6 : Value}
    (a6 : PySem.W.nsIn K mainGlobals "with_fences" = some (some (.ref f6))) (l6 : K.lookup f6 = some ⟨oc6, od6, .func (PySem.W.fnOf "with_fences" "with_fences" (defArgs s_with_fences) (defBody s_with_fences) (defScope s_with_fences) .none kV6 dc6 pm6 an6 cd6 ct6), sl6⟩) (c6 : PySem.W.codeIn K cd6 "with_fences" = true) (k6 : PySem.W.keepIn K (.ref f6) = true)
    {f7 : Addr} {od7 an7 : Option Addr} {sl7 : Array (Option Value)} {oc7 kV7 dc7 pm7 cd7 ct7 : Value}
    (a7 : PySem.W.nsIn K mainGlobals "has_keys" = some (some (.ref f7))) (l7 : K.lookup f7 = some ⟨oc7, od7, .func (PySem.W.fnOf "has_keys" "has_keys" (defArgs s_has_keys) (defBody s_has_keys) (defScope s_has_keys) .none kV7 dc7 pm7 an7 cd7 ct7), sl7⟩) (c7 : PySem.W.codeIn K cd7 "has_keys" = true) (k7 : PySem.W.keepIn K (.ref f7) = true)
    {f8 : Addr} {od8 an8 : Option Addr} {sl8 : Array (Option Value)} {oc8 kV8 dc8 pm8 cd8 ct8 : Value}
    (a8 : PySem.W.nsIn K mainGlobals "is_natural" = some (some (.ref f8))) (l8 : K.lookup f8 = some ⟨oc8, od8, .func (PySem.W.fnOf "is_natural" "is_natural" (defArgs s_is_natural) (defBody s_is_natural) (defScope s_is_natural) .none kV8 dc8 pm8 an8 cd8 ct8), sl8⟩) (c8 : PySem.W.codeIn K cd8 "is_natural" = true) (k8 : PySem.W.keepIn K (.ref f8) = true)
    {f9 : Addr} {od9 an9 : Option Addr} {sl9 : Array (Option Value)} {oc9 kV9 dc9 pm9 cd9 ct9 : Value}
    (a9 : PySem.W.nsIn K mainGlobals "is_number" = some (some (.ref f9))) (l9 : K.lookup f9 = some ⟨oc9, od9, .func (PySem.W.fnOf "is_number" "is_number" (defArgs s_is_number) (defBody s_is_number) (defScope s_is_number) .none kV9 dc9 pm9 an9 cd9 ct9), sl9⟩) (c9 : PySem.W.codeIn K cd9 "is_number" = true) (k9 : PySem.W.keepIn K (.ref f9) = true)
    {f10 : Addr} {od10 an10 : Option Addr} {sl10 : Array (Option Value)} {oc10 kV10 dc10 pm10 cd10 ct10 : Value}
    (a10 : PySem.W.nsIn K mainGlobals "is_ascending" = some (some (.ref f10))) (l10 : K.lookup f10 = some ⟨oc10, od10, .func (PySem.W.fnOf "is_ascending" "is_ascending" (defArgs s_is_ascending) (defBody s_is_ascending) (defScope s_is_ascending) .none kV10 dc10 pm10 an10 cd10 ct10), sl10⟩) (c10 : PySem.W.codeIn K cd10 "is_ascending" = true) (k10 : PySem.W.keepIn K (.ref f10) = true)
    {f11 : Addr} {od11 an11 : Option Addr} {sl11 : Array (Option Value)} {oc11 kV11 dc11 pm11 cd11 ct11 : Value}
    (a11 : PySem.W.nsIn K mainGlobals "bound_of" = some (some (.ref f11))) (l11 : K.lookup f11 = some ⟨oc11, od11, .func (PySem.W.fnOf "bound_of" "bound_of" (defArgs s_bound_of) (defBody s_bound_of) (defScope s_bound_of) .none kV11 dc11 pm11 an11 cd11 ct11), sl11⟩) (c11 : PySem.W.codeIn K cd11 "bound_of" = true) (k11 : PySem.W.keepIn K (.ref f11) = true)
    {f12 : Addr} {od12 an12 : Option Addr} {sl12 : Array (Option Value)} {oc12 kV12 dc12 pm12 cd12 ct12 : Value}
    (a12 : PySem.W.nsIn K mainGlobals "is_row" = some (some (.ref f12))) (l12 : K.lookup f12 = some ⟨oc12, od12, .func (PySem.W.fnOf "is_row" "is_row" (defArgs s_is_row) (defBody s_is_row) (defScope s_is_row) .none kV12 dc12 pm12 an12 cd12 ct12), sl12⟩) (c12 : PySem.W.codeIn K cd12 "is_row" = true) (k12 : PySem.W.keepIn K (.ref f12) = true)
    {f13 : Addr} {od13 an13 : Option Addr} {sl13 : Array (Option Value)} {oc13 kV13 dc13 pm13 cd13 ct13 : Value}
    (a13 : PySem.W.nsIn K mainGlobals "are_rows" = some (some (.ref f13))) (l13 : K.lookup f13 = some ⟨oc13, od13, .func (PySem.W.fnOf "are_rows" "are_rows" (defArgs s_are_rows) (defBody s_are_rows) (defScope s_are_rows) .none kV13 dc13 pm13 an13 cd13 ct13), sl13⟩) (c13 : PySem.W.codeIn K cd13 "are_rows" = true) (k13 : PySem.W.keepIn K (.ref f13) = true)
    {f14 : Addr} {od14 an14 : Option Addr} {sl14 : Array (Option Value)} {oc14 kV14 dc14 pm14 cd14 ct14 : Value}
    (a14 : PySem.W.nsIn K mainGlobals "is_program" = some (some (.ref f14))) (l14 : K.lookup f14 = some ⟨oc14, od14, .func (PySem.W.fnOf "is_program" "is_program" (defArgs s_is_program) (defBody s_is_program) (defScope s_is_program) .none kV14 dc14 pm14 an14 cd14 ct14), sl14⟩) (c14 : PySem.W.codeIn K cd14 "is_program" = true) (k14 : PySem.W.keepIn K (.ref f14) = true)
    {f15 : Addr} {od15 an15 : Option Addr} {sl15 : Array (Option Value)} {oc15 kV15 dc15 pm15 cd15 ct15 : Value}
    (a15 : PySem.W.nsIn K mainGlobals "_law_made" = some (some (.ref f15))) (l15 : K.lookup f15 = some ⟨oc15, od15, .func (PySem.W.fnOf "_law_made" "_law_made" (defArgs s_law_made) (defBody s_law_made) (defScope s_law_made) .none kV15 dc15 pm15 an15 cd15 ct15), sl15⟩) (c15 : PySem.W.codeIn K cd15 "_law_made" = true) (k15 : PySem.W.keepIn K (.ref f15) = true)
    {f16 : Addr} {od16 an16 : Option Addr} {sl16 : Array (Option Value)} {oc16 kV16 dc16 pm16 cd16 ct16 : Value}
    (a16 : PySem.W.nsIn K mainGlobals "_law_spoiled" = some (some (.ref f16))) (l16 : K.lookup f16 = some ⟨oc16, od16, .func (PySem.W.fnOf "_law_spoiled" "_law_spoiled" (defArgs s_law_spoiled) (defBody s_law_spoiled) (defScope s_law_spoiled) .none kV16 dc16 pm16 an16 cd16 ct16), sl16⟩) (c16 : PySem.W.codeIn K cd16 "_law_spoiled" = true) (k16 : PySem.W.keepIn K (.ref f16) = true)
    {f17 : Addr} {od17 an17 : Option Addr} {sl17 : Array (Option Value)} {oc17 kV17 dc17 pm17 cd17 ct17 : Value}
    (a17 : PySem.W.nsIn K mainGlobals "_law_moved" = some (some (.ref f17))) (l17 : K.lookup f17 = some ⟨oc17, od17, .func (PySem.W.fnOf "_law_moved" "_law_moved" (defArgs s_law_moved) (defBody s_law_moved) (defScope s_law_moved) .none kV17 dc17 pm17 an17 cd17 ct17), sl17⟩) (c17 : PySem.W.codeIn K cd17 "_law_moved" = true) (k17 : PySem.W.keepIn K (.ref f17) = true)
    {f18 : Addr} {od18 an18 : Option Addr} {sl18 : Array (Option Value)} {oc18 kV18 dc18 pm18 cd18 ct18 : Value}
    (a18 : PySem.W.nsIn K mainGlobals "_law_fenced" = some (some (.ref f18))) (l18 : K.lookup f18 = some ⟨oc18, od18, .func (PySem.W.fnOf "_law_fenced" "_law_fenced" (defArgs s_law_fenced) (defBody s_law_fenced) (defScope s_law_fenced) .none kV18 dc18 pm18 an18 cd18 ct18), sl18⟩) (c18 : PySem.W.codeIn K cd18 "_law_fenced" = true) (k18 : PySem.W.keepIn K (.ref f18) = true)
    {f19 : Addr} {od19 an19 : Option Addr} {sl19 : Array (Option Value)} {oc19 kV19 dc19 pm19 cd19 ct19 : Value}
    (a19 : PySem.W.nsIn K mainGlobals "law" = some (some (.ref f19))) (l19 : K.lookup f19 = some ⟨oc19, od19, .func (PySem.W.fnOf "law" "law" (defArgs s_law) (defBody s_law) (defScope s_law) .none kV19 dc19 pm19 an19 cd19 ct19), sl19⟩) (c19 : PySem.W.codeIn K cd19 "law" = true) (k19 : PySem.W.keepIn K (.ref f19) = true)
    (z_abs : PySem.W.nsIn K mainGlobals "abs" = some none)
    (z_all : PySem.W.nsIn K mainGlobals "all" = some none)
    (z_dict : PySem.W.nsIn K mainGlobals "dict" = some none)
    (z_enumerate : PySem.W.nsIn K mainGlobals "enumerate" = some none)
    (z_int : PySem.W.nsIn K mainGlobals "int" = some none)
    (z_len : PySem.W.nsIn K mainGlobals "len" = some none)
    (z_list : PySem.W.nsIn K mainGlobals "list" = some none)
    (z_range : PySem.W.nsIn K mainGlobals "range" = some none)
    (z_sorted : PySem.W.nsIn K mainGlobals "sorted" = some none)
    (z_str : PySem.W.nsIn K mainGlobals "str" = some none)
    (z_tuple : PySem.W.nsIn K mainGlobals "tuple" = some none)
    (z_type : PySem.W.nsIn K mainGlobals "type" = some none)
    (z_zip : PySem.W.nsIn K mainGlobals "zip" = some none)
    {t_REGISTERS : Tok} (g_REGISTERS : PySem.W.nsIn K mainGlobals "REGISTERS" = some (some (.int 4 t_REGISTERS)))
    {t_SLOTS : Tok} (g_SLOTS : PySem.W.nsIn K mainGlobals "SLOTS" = some (some (.int 2 t_SLOTS)))
    {t_ARRAYS : Tok} (g_ARRAYS : PySem.W.nsIn K mainGlobals "ARRAYS" = some (some (.int 2 t_ARRAYS)))
    {t_MOST_ROWS : Tok} (g_MOST_ROWS : PySem.W.nsIn K mainGlobals "MOST_ROWS" = some (some (.int 32 t_MOST_ROWS)))
    {d_FORMS : Addr} (g_FORMS : PySem.W.nsIn K mainGlobals "FORMS" = some (some (.ref d_FORMS))) (T_FORMS : KTab K w d_FORMS tab_FORMS) :
    ∃ fd : FuncData, (∀ (s : Shared) (v : Value), BindsTo s fd ⟨[v], []⟩ [("script", v)]) ∧ ∀ base : Heap, K.In base → base.Ns mainGlobals mg → FnOk l.prog w K mg base CX0 6 fa fd ["script"] (spD K 1 m_law) := by
  have e := hfa.symm.trans (PySem.W.mg_of X G a19)
  cases e
  have B : Bn mg := ⟨PySem.W.mg_none_of X G z_abs, PySem.W.mg_none_of X G z_all, PySem.W.mg_none_of X G z_dict, PySem.W.mg_none_of X G z_enumerate, PySem.W.mg_none_of X G z_int, PySem.W.mg_none_of X G z_len, PySem.W.mg_none_of X G z_list, PySem.W.mg_none_of X G z_range, PySem.W.mg_none_of X G z_sorted, PySem.W.mg_none_of X G z_str, PySem.W.mg_none_of X G z_tuple, PySem.W.mg_none_of X G z_type, PySem.W.mg_none_of X G z_zip⟩
  refine ⟨_, fun s v => BindsTo.of_eq (fd := PySem.W.fnOf "law" "law" (defArgs s_law) (defBody s_law) (defScope s_law) .none kV19 dc19 pm19 an19 cd19 ct19) rfl, fun base _ _ => ?_⟩
  have F0 := fun_mk (st := s_law_tape) l0 c0 k0
  have b0 := F0.binds (ps := ["script"]) fun _ _ _ _ _ _ us hl => match us, hl with | [_], _ => rfl
  have X_law_tape : Fx l.prog w K mg base 1 "_law_tape" 1 m_law_tape := fx_law_tape F0 (PySem.W.mg_of X G a0) b0 B
  have F1 := fun_mk (st := s_law_at) l1 c1 k1
  have b1 := F1.binds (ps := ["tape", "k"]) fun _ _ _ _ _ _ us hl => match us, hl with | [_, _], _ => rfl
  have X_law_at : Fx l.prog w K mg base 1 "_law_at" 2 m_law_at := fx_law_at F1 (PySem.W.mg_of X G a1) b1 B
  have F2 := fun_mk (st := s_law_row) l2 c2 k2
  have b2 := F2.binds (ps := ["number", "pick", "other", "many"]) fun _ _ _ _ _ _ us hl => match us, hl with | [_, _, _, _], _ => rfl
  have X_law_row : Fx l.prog w K mg base 1 "_law_row" 4 m_law_row := fx_law_row F2 (PySem.W.mg_of X G a2) b2 B
  have F3 := fun_mk (st := s_law_program) l3 c3 k3
  have b3 := F3.binds (ps := ["tape", "place"]) fun _ _ _ _ _ _ us hl => match us, hl with | [_, _], _ => rfl
  have X_law_program : Fx l.prog w K mg base 2 "_law_program" 2 m_law_program := fx_law_program F3 (PySem.W.mg_of X G a3) b3 B X_law_at X_law_row
  have F4 := fun_mk (st := s_fenced_target) l4 c4 k4
  have b4 := F4.binds (ps := ["target", "fenced"]) fun _ _ _ _ _ _ us hl => match us, hl with | [_, _], _ => rfl
  have X_fenced_target : Fx l.prog w K mg base 1 "fenced_target" 2 m_fenced_target := fx_fenced_target F4 (PySem.W.mg_of X G a4) b4 B
  have F5 := fun_mk (st := s_fenced_row) l5 c5 k5
  have b5 := F5.binds (ps := ["row", "fenced"]) fun _ _ _ _ _ _ us hl => match us, hl with | [_, _], _ => rfl
  have X_fenced_row : Fx l.prog w K mg base 2 "fenced_row" 2 m_fenced_row := fx_fenced_row F5 (PySem.W.mg_of X G a5) b5 B X_fenced_target
  have F6 := fun_mk (st := s_with_fences) l6 c6 k6
  have b6 := F6.binds (ps := ["program", "places"]) fun _ _ _ _ _ _ us hl => match us, hl with | [_, _], _ => rfl
  have X_with_fences : Fx l.prog w K mg base 3 "with_fences" 2 m_with_fences := fx_with_fences F6 (PySem.W.mg_of X G a6) b6 B X_fenced_row
  have F7 := fun_mk (st := s_has_keys) l7 c7 k7
  have b7 := F7.binds (ps := ["value", "names"]) fun _ _ _ _ _ _ us hl => match us, hl with | [_, _], _ => rfl
  have X_has_keys : Fx l.prog w K mg base 1 "has_keys" 2 m_has_keys := fx_has_keys F7 (PySem.W.mg_of X G a7) b7 B
  have F8 := fun_mk (st := s_is_natural) l8 c8 k8
  have b8 := F8.binds (ps := ["value"]) fun _ _ _ _ _ _ us hl => match us, hl with | [_], _ => rfl
  have X_is_natural : Fx l.prog w K mg base 1 "is_natural" 1 m_is_natural := fx_is_natural F8 (PySem.W.mg_of X G a8) b8 B
  have F9 := fun_mk (st := s_is_number) l9 c9 k9
  have b9 := F9.binds (ps := ["value", "bound"]) fun _ _ _ _ _ _ us hl => match us, hl with | [_, _], _ => rfl
  have X_is_number : Fx l.prog w K mg base 2 "is_number" 2 m_is_number := fx_is_number F9 (PySem.W.mg_of X G a9) b9 B X_is_natural
  have F10 := fun_mk (st := s_is_ascending) l10 c10 k10
  have b10 := F10.binds (ps := ["value", "bound"]) fun _ _ _ _ _ _ us hl => match us, hl with | [_, _], _ => rfl
  have X_is_ascending : Fx l.prog w K mg base 3 "is_ascending" 2 m_is_ascending := fx_is_ascending F10 (PySem.W.mg_of X G a10) b10 B X_is_number
  have F11 := fun_mk (st := s_bound_of) l11 c11 k11
  have b11 := F11.binds (ps := ["kind", "places"]) fun _ _ _ _ _ _ us hl => match us, hl with | [_, _], _ => rfl
  have X_bound_of : Fx l.prog w K mg base 1 "bound_of" 2 m_bound_of := fx_bound_of F11 (PySem.W.mg_of X G a11) b11 B (PySem.W.mg_of X G g_REGISTERS) (PySem.W.mg_of X G g_SLOTS) (PySem.W.mg_of X G g_ARRAYS)
  have F12 := fun_mk (st := s_is_row) l12 c12 k12
  have b12 := F12.binds (ps := ["value", "places"]) fun _ _ _ _ _ _ us hl => match us, hl with | [_, _], _ => rfl
  have X_is_row : Fx l.prog w K mg base 3 "is_row" 2 m_is_row := fx_is_row F12 (PySem.W.mg_of X G a12) b12 B (PySem.W.mg_of X G g_FORMS) T_FORMS X_bound_of X_is_number
  have F13 := fun_mk (st := s_are_rows) l13 c13 k13
  have b13 := F13.binds (ps := ["value"]) fun _ _ _ _ _ _ us hl => match us, hl with | [_], _ => rfl
  have X_are_rows : Fx l.prog w K mg base 4 "are_rows" 1 m_are_rows := fx_are_rows F13 (PySem.W.mg_of X G a13) b13 B (PySem.W.mg_of X G g_MOST_ROWS) X_is_row
  have F14 := fun_mk (st := s_is_program) l14 c14 k14
  have b14 := F14.binds (ps := ["value"]) fun _ _ _ _ _ _ us hl => match us, hl with | [_], _ => rfl
  have X_is_program : Fx l.prog w K mg base 5 "is_program" 1 m_is_program := fx_is_program F14 (PySem.W.mg_of X G a14) b14 B (PySem.W.mg_of X G g_REGISTERS) X_are_rows X_has_keys X_is_ascending
  have F15 := fun_mk (st := s_law_made) l15 c15 k15
  have b15 := F15.binds (ps := ["secret", "rows"]) fun _ _ _ _ _ _ us hl => match us, hl with | [_, _], _ => rfl
  have X_law_made : Fx l.prog w K mg base 1 "_law_made" 2 m_law_made := fx_law_made F15 (PySem.W.mg_of X G a15) b15 B
  have F16 := fun_mk (st := s_law_spoiled) l16 c16 k16
  have b16 := F16.binds (ps := ["program", "kind", "at", "odd"]) fun _ _ _ _ _ _ us hl => match us, hl with | [_, _, _, _], _ => rfl
  have X_law_spoiled : Fx l.prog w K mg base 2 "_law_spoiled" 4 m_law_spoiled := fx_law_spoiled F16 (PySem.W.mg_of X G a16) b16 B X_law_made
  have F17 := fun_mk (st := s_law_moved) l17 c17 k17
  have b17 := F17.binds (ps := ["place", "places"]) fun _ _ _ _ _ _ us hl => match us, hl with | [_, _], _ => rfl
  have X_law_moved : Fx l.prog w K mg base 1 "_law_moved" 2 m_law_moved := fx_law_moved F17 (PySem.W.mg_of X G a17) b17 B
  have F18 := fun_mk (st := s_law_fenced) l18 c18 k18
  have b18 := F18.binds (ps := ["program", "places"]) fun _ _ _ _ _ _ us hl => match us, hl with | [_, _], _ => rfl
  have X_law_fenced : Fx l.prog w K mg base 2 "_law_fenced" 2 m_law_fenced := fx_law_fenced F18 (PySem.W.mg_of X G a18) b18 B X_law_made X_law_moved
  have F19 := fun_mk (st := s_law) l19 c19 k19
  exact fn_law F19 B (PySem.W.mg_of X G g_REGISTERS) (PySem.W.mg_of X G g_SLOTS) (PySem.W.mg_of X G g_ARRAYS) (PySem.W.mg_of X G g_MOST_ROWS) X_law_at X_law_fenced X_law_program X_law_spoiled X_law_tape X_is_program X_with_fences
theorem law_sp {K : PySem.W.Frag} {H : Hp} {a : Addr} {ns : List Int} (hl : ns.length ≤ 63) (hS : SqL K H a (ns.map V.int)) : spD K 1 m_law [.ref a] H (fun v _ => v = .bl true) fun _ _ _ => False :=
  ⟨H, [.sl (ns.map .int)], .bl true, .refl H, .one (rep_sl.mpr ⟨a, _, rfl, hS, reps_ints.mpr rfl⟩), rfl, law_all ns hl, fun v F' H' _ r => rep_bl.mp r⟩
end K01
open PySem PySem.W PyProof.Rows
set_option maxHeartbeats 0 in
theorem PySem.Challenge.cw_guesshush_k01_programs_holds : PySem.Challenge.rw_guesshush_k01_programs.Holds := by
  w_on; o_law; k_head; (case hw => w_witness2)
  k_fill
  refine L2.walk_of (l := PySem.Challenge.rw_guesshush_k01_programs) (n := 63) (k := 6) (x := "script") (CX := fun _ => L2.CX0) (sp := fun w => Mi.spD _ 1 K01.m_law) rfl (by decide) rfl ⟨rfl, by decide, by decide⟩ (fun w h Y => PySem.W.kIn_of Y) ?F (fun w H a ns hl _ hS => K01.law_sp hl hS) (fun _ _ _ _ _ h => h)
  case F =>
    intro w mg fa h KX G hmg
    refine' K01.all_mk KX G hmg ?a0 ?l0 ?c0 ?k0 ?a1 ?l1 ?c1 ?k1 ?a2 ?l2 ?c2 ?k2 ?a3 ?l3 ?c3 ?k3 ?a4 ?l4 ?c4 ?k4 ?a5 ?l5 ?c5 ?k5 ?a6 ?l6 ?c6 ?k6 ?a7 ?l7 ?c7 ?k7 ?a8 ?l8 ?c8 ?k8 ?a9 ?l9 ?c9 ?k9 ?a10 ?l10 ?c10 ?k10 ?a11 ?l11 ?c11 ?k11 ?a12 ?l12 ?c12 ?k12 ?a13 ?l13 ?c13 ?k13 ?a14 ?l14 ?c14 ?k14 ?a15 ?l15 ?c15 ?k15 ?a16 ?l16 ?c16 ?k16 ?a17 ?l17 ?c17 ?k17 ?a18 ?l18 ?c18 ?k18 ?a19 ?l19 ?c19 ?k19 ?z_abs ?z_all ?z_dict ?z_enumerate ?z_int ?z_len ?z_list ?z_range ?z_sorted ?z_str ?z_tuple ?z_type ?z_zip ?g_REGISTERS ?g_SLOTS ?g_ARRAYS ?g_MOST_ROWS ?g_FORMS ?T_FORMS
    (case a0 => k_is)
    (case l0 => k_is)
    (case c0 => k_is)
    (case k0 => k_is)
    (case a1 => k_is)
    (case l1 => k_is)
    (case c1 => k_is)
    (case k1 => k_is)
    (case a2 => k_is)
    (case l2 => k_is)
    (case c2 => k_is)
    (case k2 => k_is)
    (case a3 => k_is)
    (case l3 => k_is)
    (case c3 => k_is)
    (case k3 => k_is)
    (case a4 => k_is)
    (case l4 => k_is)
    (case c4 => k_is)
    (case k4 => k_is)
    (case a5 => k_is)
    (case l5 => k_is)
    (case c5 => k_is)
    (case k5 => k_is)
    (case a6 => k_is)
    (case l6 => k_is)
    (case c6 => k_is)
    (case k6 => k_is)
    (case a7 => k_is)
    (case l7 => k_is)
    (case c7 => k_is)
    (case k7 => k_is)
    (case a8 => k_is)
    (case l8 => k_is)
    (case c8 => k_is)
    (case k8 => k_is)
    (case a9 => k_is)
    (case l9 => k_is)
    (case c9 => k_is)
    (case k9 => k_is)
    (case a10 => k_is)
    (case l10 => k_is)
    (case c10 => k_is)
    (case k10 => k_is)
    (case a11 => k_is)
    (case l11 => k_is)
    (case c11 => k_is)
    (case k11 => k_is)
    (case a12 => k_is)
    (case l12 => k_is)
    (case c12 => k_is)
    (case k12 => k_is)
    (case a13 => k_is)
    (case l13 => k_is)
    (case c13 => k_is)
    (case k13 => k_is)
    (case a14 => k_is)
    (case l14 => k_is)
    (case c14 => k_is)
    (case k14 => k_is)
    (case a15 => k_is)
    (case l15 => k_is)
    (case c15 => k_is)
    (case k15 => k_is)
    (case a16 => k_is)
    (case l16 => k_is)
    (case c16 => k_is)
    (case k16 => k_is)
    (case a17 => k_is)
    (case l17 => k_is)
    (case c17 => k_is)
    (case k17 => k_is)
    (case a18 => k_is)
    (case l18 => k_is)
    (case c18 => k_is)
    (case k18 => k_is)
    (case a19 => k_is)
    (case l19 => k_is)
    (case c19 => k_is)
    (case k19 => k_is)
    (case z_abs => k_is)
    (case z_all => k_is)
    (case z_dict => k_is)
    (case z_enumerate => k_is)
    (case z_int => k_is)
    (case z_len => k_is)
    (case z_list => k_is)
    (case z_range => k_is)
    (case z_sorted => k_is)
    (case z_str => k_is)
    (case z_tuple => k_is)
    (case z_type => k_is)
    (case z_zip => k_is)
    (case g_REGISTERS => k_is)
    (case g_SLOTS => k_is)
    (case g_ARRAYS => k_is)
    (case g_MOST_ROWS => k_is)
    (case g_FORMS => k_is)
    (case T_FORMS =>
      refine' K01.tab_mk_FORMS ?fhl ?fhk ?flow ?xe0 ?xl_v0 ?xe1 ?xl_v1 ?xe2 ?xl_v2 ?xe3 ?xl_v3 ?xe4 ?xl_v4 ?xe5 ?xl_v5 ?xe6 ?xl_v6 ?xe7 ?xl_v7 ?xe8 ?xl_v8 ?xe9 ?xl_v9 ?xw0
      (case fhl => k_is)
      (case fhk => exact ⟨⟨_, _, rfl, rfl⟩, ⟨_, _, rfl, rfl⟩, ⟨_, _, rfl, rfl⟩, ⟨_, _, rfl, rfl⟩, ⟨_, _, rfl, rfl⟩, ⟨_, _, rfl, rfl⟩, ⟨_, _, rfl, rfl⟩, ⟨_, _, rfl, rfl⟩, ⟨_, _, rfl, rfl⟩, ⟨_, _, rfl, rfl⟩, trivial⟩)
      (case flow => decide)
      (case xe0 => k_is)
      (case xl_v0 => k_is)
      (case xe1 => k_is)
      (case xl_v1 => k_is)
      (case xe2 => k_is)
      (case xl_v2 => k_is)
      (case xe3 => k_is)
      (case xl_v3 => k_is)
      (case xe4 => k_is)
      (case xl_v4 => k_is)
      (case xe5 => k_is)
      (case xl_v5 => k_is)
      (case xe6 => k_is)
      (case xl_v6 => k_is)
      (case xe7 => k_is)
      (case xl_v7 => k_is)
      (case xe8 => k_is)
      (case xl_v8 => k_is)
      (case xe9 => k_is)
      (case xl_v9 => k_is)
      (case xw0 => k_is))

