import PyProof.Rows.All
import Wide.All
import OpenK.AllK
import Wide.FinOn
import HandS.ForMost
import HandS.Exc
import HandS.Walk
import HandS.Flow
import PyProof.FactsAll.tuple_2
import HandS.TupMul
import HandS.Style
import PyProof.Rows.IntBool
import KE.DataMinMax
import HandS.IsInst
import HandS.FStr
import HandS.Zip
import HandS.DictComp
import HandS.TupAny
import HandS.Wide
import KE.DataCmp
import HandS.Steps
import HandS.TupLen
import HandS.RaiseMore
import HandS.StrMore
import HandS.Conv
import PyProof.ReprRoads
import KE.SortData
import HandS.More
import KE.KDictList
import PyProof.StrWalks
import HandS.SetTxt0
import HandS.SetFor
import PyProof.DictStraight
import HandS.Words
import HandS.Defaults
import PyProof.StrLawsRepr
import HandS.Ends
import HandS.HeadEnd
import HandS.HeadHook2
import KE.KStateDown
import HandS.Head0
import HandS.Head1
import HandS.Head2
import PySem.Challenge.RW_sheetmoves_k17_values_that_are_colouring
set_option Elab.async false
set_option maxRecDepth 100000
set_option maxHeartbeats 2000000
set_option linter.all false
namespace DL
open PySem PySem.Spec PyProof.Rows L2
/-! ### data, without addresses -/
inductive D where
  | non | bl (b : Bool) | int (i : Int) | str (s : Str)
  | lst (xs : List D) | tup (xs : List D)
  | dK (ks : List Key) (vs : List D)
  | dT (ks : List (List Key)) (vs : List D)
  | ins (c : Str) (ns : List Str) (vs : List D)
  | deck
/-- what is fixed through a law: the written part, the classes by name, the deck's dict and its list -/
structure GC where
  K : PySem.W.Frag
  mg : Str → Option Value
  ct : Str → Option Addr
  dk : Addr
  gl : Addr
  df : Int → HO
  sx : Addr
def noI : List D → Bool
  | [] => true
  | .int _ :: _ => false
  | _ :: ds => noI ds
mutual
/-- v is d, all objects on the way (but tuples) within ok -/
def Dt (G : GC) (ok : Addr → Prop) (H : Hp) : D → V → Prop
  | .non, v => v = .non
  | .bl b, v => v = .bl b
  | .int i, v => v = .int i
  | .str s, v => v = .str s ∧ s.length ≤ sizeLine
  | .lst ds, v => ∃ a xs, v = .ref a ∧ ok a ∧ H a = some (.lst xs) ∧ DtL G ok H ds xs
  | .tup ds, v => ∃ a xs, v = .ref a ∧ (H a = some (.tup xs) ∨ ((∀ H', SqT G.K H' a xs) ∧ noI ds = true)) ∧ DtL G ok H ds xs
  | .dK ks ds, v => ∃ a us, v = .ref a ∧ ok a ∧ H a = some (.dK us) ∧ us.map (·.1) = ks ∧ DtL G ok H ds (us.map (·.2))
  | .dT ks ds, v => ∃ a us, v = .ref a ∧ ok a ∧ H a = some (.dT us) ∧ us.map (·.1) = ks ∧ DtL G ok H ds (us.map (·.2))
  | .ins c ns ds, v => ∃ a C dx us, v = .ref a ∧ ok a ∧ G.ct c = some C ∧ H a = some (.ins C dx us) ∧ us.map (·.1) = ns ∧ DtL G ok H ds (us.map (·.2))
  | .deck, v => v = .ref G.dk
def DtL (G : GC) (ok : Addr → Prop) (H : Hp) : List D → List V → Prop
  | [], vs => vs = []
  | d :: ds, vs => ∃ v r, vs = v :: r ∧ Dt G ok H d v ∧ DtL G ok H ds r
end
mutual
theorem Dt.mono {G : GC} {ok ok' : Addr → Prop} {H H' : Hp} (hk : ∀ a o, ok a → H a = some o → ok' a ∧ H' a = some o) (ht : ∀ a xs, H a = some (.tup xs) → H' a = some (.tup xs)) : ∀ (d : D) (v : V), Dt G ok H d v → Dt G ok' H' d v
  | .non, v, h => h
  | .bl b, v, h => h
  | .int i, v, h => h
  | .str s, v, h => h
  | .deck, v, h => h
  | .lst ds, v, h => by
    obtain ⟨a, xs, e, o, q, r⟩ := h
    exact ⟨a, xs, e, (hk a _ o q).1, (hk a _ o q).2, DtL.mono hk ht ds xs r⟩
  | .tup ds, v, h => by
    obtain ⟨a, xs, e, o, r⟩ := h
    exact ⟨a, xs, e, o.imp (ht a xs) id, DtL.mono hk ht ds xs r⟩
  | .dK ks ds, v, h => by
    obtain ⟨a, us, e, o, q, k, r⟩ := h
    exact ⟨a, us, e, (hk a _ o q).1, (hk a _ o q).2, k, DtL.mono hk ht ds _ r⟩
  | .dT ks ds, v, h => by
    obtain ⟨a, us, e, o, q, k, r⟩ := h
    exact ⟨a, us, e, (hk a _ o q).1, (hk a _ o q).2, k, DtL.mono hk ht ds _ r⟩
  | .ins c ns ds, v, h => by
    obtain ⟨a, C, dx, us, e, o, hc, q, k, r⟩ := h
    exact ⟨a, C, dx, us, e, (hk a _ o q).1, hc, (hk a _ o q).2, k, DtL.mono hk ht ds _ r⟩
theorem DtL.mono {G : GC} {ok ok' : Addr → Prop} {H H' : Hp} (hk : ∀ a o, ok a → H a = some o → ok' a ∧ H' a = some o) (ht : ∀ a xs, H a = some (.tup xs) → H' a = some (.tup xs)) : ∀ (ds : List D) (vs : List V), DtL G ok H ds vs → DtL G ok' H' ds vs
  | [], vs, h => h
  | d :: ds, vs, h => by
    obtain ⟨v, r, e, q, t⟩ := h
    exact ⟨v, r, e, Dt.mono hk ht d v q, DtL.mono hk ht ds r t⟩
end
section
variable {G : GC} {ok ok' : Addr → Prop} {H H' : Hp}
theorem DtL.nil : DtL G ok H [] [] := rfl
theorem DtL.cons {d : D} {v : V} {ds : List D} {vs : List V} (h : Dt G ok H d v) (t : DtL G ok H ds vs) : DtL G ok H (d :: ds) (v :: vs) := ⟨v, vs, rfl, h, t⟩
theorem DtL.cons_iff {d : D} {v : V} {ds : List D} {vs : List V} : DtL G ok H (d :: ds) (v :: vs) ↔ Dt G ok H d v ∧ DtL G ok H ds vs := by
  constructor
  · rintro ⟨_, _, e, h, t⟩
    cases e
    exact ⟨h, t⟩
  · rintro ⟨h, t⟩
    exact .cons h t
theorem DtL.length : ∀ {ds : List D} {vs : List V}, DtL G ok H ds vs → ds.length = vs.length
  | [], vs, h => by rw [show vs = [] from h] <;> rfl
  | d :: ds, vs, h => by
    obtain ⟨v, r, e, _, t⟩ := h
    subst e
    rw [List.length_cons, List.length_cons, DtL.length t]
theorem DtL.get : ∀ {ds : List D} {vs : List V} {i : Nat} {v : V}, DtL G ok H ds vs → vs[i]? = some v → ∃ d, ds[i]? = some d ∧ Dt G ok H d v
  | [], vs, i, v, h, e => by
    rw [show vs = [] from h] at e
    simp at e
  | d :: ds, vs, i, v, h, e => by
    obtain ⟨w, r, q, hd, t⟩ := h
    subst q
    cases i with
    | zero =>
      cases Option.some.inj (show some w = some v by simpa using e)
      exact ⟨d, rfl, hd⟩
    | succ i =>
      obtain ⟨d', h1, h2⟩ := DtL.get (i := i) t (by simpa using e)
      exact ⟨d', by simpa using h1, h2⟩
theorem DtL.getD : ∀ {ds : List D} {vs : List V} {i : Nat} {d : D}, DtL G ok H ds vs → ds[i]? = some d → ∃ v, vs[i]? = some v ∧ Dt G ok H d v
  | [], vs, i, v, h, e => by
    simp at e
  | d :: ds, vs, i, d', h, e => by
    obtain ⟨w, r, q, hd, t⟩ := h
    subst q
    cases i with
    | zero =>
      cases Option.some.inj (show some d = some d' by simpa using e)
      exact ⟨w, rfl, hd⟩
    | succ i =>
      obtain ⟨v, h1, h2⟩ := DtL.getD (i := i) t (by simpa using e)
      exact ⟨v, by simpa using h1, h2⟩
theorem DtL.append : ∀ {ds es : List D} {vs us : List V}, DtL G ok H ds vs → DtL G ok H es us → DtL G ok H (ds ++ es) (vs ++ us)
  | [], es, vs, us, h, t => by
    rw [show vs = [] from h]
    exact t
  | d :: ds, es, vs, us, h, t => by
    obtain ⟨w, r, q, hd, t'⟩ := h
    subst q
    exact .cons hd (DtL.append t' t)
theorem DtL.drop : ∀ {ds : List D} {vs : List V} (n : Nat), DtL G ok H ds vs → DtL G ok H (ds.drop n) (vs.drop n)
  | _, _, 0, h => h
  | [], vs, n + 1, h => by
    rw [show vs = [] from h]
    exact rfl
  | d :: ds, vs, n + 1, h => by
    obtain ⟨w, r, q, hd, t'⟩ := h
    subst q
    exact DtL.drop n t'
theorem DtL.take : ∀ {ds : List D} {vs : List V} (n : Nat), DtL G ok H ds vs → DtL G ok H (ds.take n) (vs.take n)
  | _, _, 0, h => rfl
  | [], vs, n + 1, h => by
    rw [show vs = [] from h]
    exact rfl
  | d :: ds, vs, n + 1, h => by
    obtain ⟨w, r, q, hd, t'⟩ := h
    subst q
    exact .cons hd (DtL.take n t')
theorem DtL.reverse : ∀ {ds : List D} {vs : List V}, DtL G ok H ds vs → DtL G ok H ds.reverse vs.reverse
  | [], vs, h => by
    rw [show vs = [] from h]
    exact rfl
  | d :: ds, vs, h => by
    obtain ⟨w, r, q, hd, t'⟩ := h
    subst q
    rw [List.reverse_cons, List.reverse_cons]
    exact (DtL.reverse t').append (.cons hd .nil)
theorem DtL.set : ∀ {ds : List D} {vs : List V} {d : D} {v : V} (i : Nat), DtL G ok H ds vs → Dt G ok H d v → DtL G ok H (ds.set i d) (vs.set i v)
  | [], vs, d, v, i, h, _ => by
    rw [show vs = [] from h]
    exact rfl
  | d :: ds, vs, d', v, i, h, hv => by
    obtain ⟨w, r, q, hd, t'⟩ := h
    subst q
    cases i with
    | zero => exact .cons hv t'
    | succ i => exact .cons hd (DtL.set i t' hv)
theorem DtL.eraseIdx : ∀ {ds : List D} {vs : List V} (i : Nat), DtL G ok H ds vs → DtL G ok H (ds.eraseIdx i) (vs.eraseIdx i)
  | [], vs, i, h => by
    rw [show vs = [] from h]
    exact rfl
  | d :: ds, vs, i, h => by
    obtain ⟨w, r, q, hd, t'⟩ := h
    subst q
    cases i with
    | zero => exact t'
    | succ i => exact .cons hd (DtL.eraseIdx i t')
theorem DtL.of_get : ∀ {ds : List D} {vs : List V}, ds.length = vs.length → (∀ (i : Nat) d v, ds[i]? = some d → vs[i]? = some v → Dt G ok H d v) → DtL G ok H ds vs
  | [], vs, hl, _ => by
    cases vs with
    | nil => rfl
    | cons v vs => simp at hl
  | d :: ds, vs, hl, h => by
    cases vs with
    | nil => simp at hl
    | cons v vs =>
      exact .cons (h 0 d v rfl rfl) (DtL.of_get (by simpa using hl) fun i e w a b => h (i + 1) e w (by simpa using a) (by simpa using b))
/-- what an address holds, its parts within ok -/
def OwD (G : GC) (ok : Addr → Prop) (H : Hp) (d : D) (a : Addr) : Prop := match d with
  | .lst ds => ∃ xs, H a = some (.lst xs) ∧ DtL G ok H ds xs
  | .dK ks ds => ∃ us, H a = some (.dK us) ∧ us.map (·.1) = ks ∧ DtL G ok H ds (us.map (·.2))
  | .dT ks ds => ∃ us, H a = some (.dT us) ∧ us.map (·.1) = ks ∧ DtL G ok H ds (us.map (·.2))
  | .ins c ns ds => ∃ C dx us, G.ct c = some C ∧ H a = some (.ins C dx us) ∧ us.map (·.1) = ns ∧ DtL G ok H ds (us.map (·.2)) ∧ a = G.sx
  | _ => False
/-- v is d, its own object anywhere -/
def DtB (G : GC) (ok : Addr → Prop) (H : Hp) (d : D) (v : V) : Prop := match d with
  | .lst ds => ∃ a, v = .ref a ∧ OwD G ok H (.lst ds) a
  | .dK ks ds => ∃ a, v = .ref a ∧ OwD G ok H (.dK ks ds) a
  | .dT ks ds => ∃ a, v = .ref a ∧ OwD G ok H (.dT ks ds) a
  | .ins c ns ds => ∃ a C dx us, v = .ref a ∧ G.ct c = some C ∧ H a = some (.ins C dx us) ∧ us.map (·.1) = ns ∧ DtL G ok H ds (us.map (·.2))
  | d => Dt G ok H d v
theorem Dt.toB {d : D} {v : V} (h : Dt G ok H d v) : DtB G ok H d v := by
  cases d <;> first | exact h | skip
  · obtain ⟨a, xs, e, _, q, r⟩ := h
    exact ⟨a, e, xs, q, r⟩
  · obtain ⟨a, xs, e, _, q, r⟩ := h
    exact ⟨a, e, xs, q, r⟩
  · obtain ⟨a, xs, e, _, q, r⟩ := h
    exact ⟨a, e, xs, q, r⟩
  · obtain ⟨a, C, dx, xs, e, _, c, q, r⟩ := h
    exact ⟨a, C, dx, xs, e, c, q, r⟩
theorem OwD.toB {d : D} {a : Addr} (h : OwD G ok H d a) : DtB G ok H d (.ref a) := by
  cases d with
  | ins c ns ds =>
    obtain ⟨C, dx, us, h1, h2, h3, h4, _⟩ := h
    exact ⟨a, C, dx, us, rfl, h1, h2, h3, h4⟩
  | _ => first | exact ⟨a, rfl, h⟩ | exact h.elim
theorem OwD.toDt {d : D} {a : Addr} (h : OwD G ok H d a) (ha : ok a) : Dt G ok H d (.ref a) := by
  cases d <;> first | exact h.elim | skip
  · obtain ⟨xs, q, r⟩ := h
    exact ⟨a, xs, rfl, ha, q, r⟩
  · obtain ⟨xs, q, r⟩ := h
    exact ⟨a, xs, rfl, ha, q, r⟩
  · obtain ⟨xs, q, r⟩ := h
    exact ⟨a, xs, rfl, ha, q, r⟩
  · obtain ⟨C, dx, xs, c, q, k, r, _⟩ := h
    exact ⟨a, C, dx, xs, rfl, ha, c, q, k, r⟩
theorem OwD.mono {d : D} {a : Addr} (hk : ∀ a o, ok a → H a = some o → ok' a ∧ H' a = some o) (ht : ∀ a xs, H a = some (.tup xs) → H' a = some (.tup xs)) (ha : H' a = H a) (h : OwD G ok H d a) : OwD G ok' H' d a := by
  cases d <;> first | exact h.elim | skip
  · obtain ⟨xs, q, r⟩ := h
    exact ⟨xs, ha.trans q, r.mono hk ht⟩
  · obtain ⟨xs, q, k, r⟩ := h
    exact ⟨xs, ha.trans q, k, r.mono hk ht⟩
  · obtain ⟨xs, q, k, r⟩ := h
    exact ⟨xs, ha.trans q, k, r.mono hk ht⟩
  · obtain ⟨C, dx, xs, c, q, k, r, z⟩ := h
    exact ⟨C, dx, xs, c, ha.trans q, k, r.mono hk ht, z⟩
theorem OwD.notup {d : D} {a : Addr} (h : OwD G ok H d a) : ∃ o, H a = some o ∧ ∀ xs, o ≠ .tup xs := by
  cases d <;> first | exact h.elim | skip
  · obtain ⟨xs, q, r⟩ := h
    exact ⟨_, q, fun _ => by intro z; cases z⟩
  · obtain ⟨xs, q, r⟩ := h
    exact ⟨_, q, fun _ => by intro z; cases z⟩
  · obtain ⟨xs, q, r⟩ := h
    exact ⟨_, q, fun _ => by intro z; cases z⟩
  · obtain ⟨C, dx, xs, c, q, r⟩ := h
    exact ⟨_, q, fun _ => by intro z; cases z⟩
end
/-! ### slots -/
inductive Sl where
  | emp | dat (d : D) | own (d : D)
abbrev En := List Sl
abbrev DW := List Int × Int
def owns : En → L2.St → List Addr
  | .own _ :: ρ, some (.ref a) :: σ => a :: owns ρ σ
  | _ :: ρ, _ :: σ => owns ρ σ
  | _, _ => []
def SlD (G : GC) (ok : Addr → Prop) (H : Hp) : Sl → Option V → Prop
  | .emp, _ => True
  | .dat d, o => ∃ v, o = some v ∧ Dt G ok H d v
  | .own d, o => ∃ a, o = some (.ref a) ∧ OwD G ok H d a
def EnDs (G : GC) (ok : Addr → Prop) (H : Hp) : En → L2.St → Prop
  | [], [] => True
  | s :: ρ, o :: σ => SlD G ok H s o ∧ EnDs G ok H ρ σ
  | _, _ => False
def okA (Bd : Addr → Prop) (A : List Addr) : Addr → Prop := fun a => ¬ Bd a ∧ a ∉ A
structure EnD (G : GC) (Bd : Addr → Prop) (H : Hp) (ρ : En) (σ : L2.St) : Prop where
  sl : EnDs G (okA Bd (owns ρ σ)) H ρ σ
  nd : (owns ρ σ).Nodup
  nb : ∀ a ∈ owns ρ σ, ¬ Bd a
structure BdOk (G : GC) (Bd : Addr → Prop) (H : Hp) : Prop where
  dk : Bd G.dk
  gl : Bd G.gl
  there : ∀ a, Bd a → H a ≠ none
/-- the deck holds w -/
structure DkD (G : GC) (H : Hp) (w : DW) : Prop where
  dk : H G.dk = some (G.df w.2)
  gl : H G.gl = some (.lst (w.1.map V.int))
/-- from H to H': all stands but the deck and A -/
structure Stp (G : GC) (A : List Addr) (H H' : Hp) : Prop where
  keep : ∀ a o, H a = some o → a ∉ A → a ≠ G.dk → a ≠ G.gl → H' a = some o
  tup : ∀ a xs, H a = some (.tup xs) → H' a = some (.tup xs)
  stay : ∀ a, H a ≠ none → H' a ≠ none
/-- everything stands -/
def Ext (H H' : Hp) : Prop := ∀ a o, H a = some o → H' a = some o
theorem Ext.refl {H : Hp} : Ext H H := fun _ _ h => h
theorem Ext.trans {H H1 H2 : Hp} (a : Ext H H1) (b : Ext H1 H2) : Ext H H2 := fun x o h => b x o (a x o h)
theorem Ext.new {H : Hp} {p : Addr} {o : HO} (h : H p = none) : Ext H (upd H p o) := fun a u e => by
  rw [upd_ne (ne_of_none e h)]
  exact e
section
variable {G : GC} {Bd : Addr → Prop} {A B : List Addr} {H H1 H2 H' : Hp} {ρ : En} {σ : L2.St} {w : DW}
theorem Stp.refl : Stp G A H H := ⟨fun _ _ h _ _ _ => h, fun _ _ h => h, fun _ h => h⟩
theorem Ext.stp (e : Ext H H') : Stp G A H H' := ⟨fun a o h _ _ _ => e a o h, fun a xs h => e a _ h, fun a h => by
  cases q : H a with
  | none => exact absurd q h
  | some o => rw [e a o q]; simp⟩
theorem Stp.trans (h1 : Stp G A H H1) (h2 : Stp G B H1 H2) (hs : ∀ a ∈ B, a ∈ A ∨ H a = none) : Stp G A H H2 :=
  ⟨fun a o h n d g => h2.keep a o (h1.keep a o h n d g) (fun hb => by
      rcases hs a hb with z | z
      · exact n z
      · rw [h] at z; cases z) d g, fun a xs h => h2.tup a xs (h1.tup a xs h), fun a h => h2.stay a (h1.stay a h)⟩
theorem Stp.sub (h1 : Stp G B H H1) (hs : ∀ a ∈ B, a ∈ A) : Stp G A H H1 := ⟨fun a o h n d g => h1.keep a o h (fun z => n (hs a z)) d g, h1.tup, h1.stay⟩
theorem Stp.mut {a : Addr} {u o : HO} (ha : a ∈ A) (h : H a = some u) (hu : ∀ xs, u ≠ .tup xs) : Stp G A H (upd H a o) := by
  refine ⟨fun b v hb n _ _ => ?_, fun b xs hb => ?_, fun b hb => ?_⟩
  · rw [upd_ne (fun e => n (by rw [e]; exact ha))]
    exact hb
  · rw [upd_ne (fun e => by subst e; rw [h] at hb; cases hb; exact hu xs rfl)]
    exact hb
  · by_cases e : b = a
    · subst e
      rw [upd_same]
      simp
    · rw [upd_ne e]
      exact hb
theorem BdOk.step (h : BdOk G Bd H) (s : Stp G A H H') : BdOk G Bd H' := ⟨h.dk, h.gl, fun a b => s.stay a (h.there a b)⟩
/-- what is carried over a step -/
theorem carryK (hb : BdOk G Bd H) (s : Stp G A H H') {A' : List Addr} (hA : ∀ a ∈ A', a ∈ A ∨ H a = none) : ∀ a o, okA Bd A a → H a = some o → okA Bd A' a ∧ H' a = some o := fun a o k e => by
  refine ⟨⟨k.1, fun z => ?_⟩, s.keep a o e k.2 (fun q => k.1 (by rw [q]; exact hb.dk)) fun q => k.1 (by rw [q]; exact hb.gl)⟩
  rcases hA a z with q | q
  · exact k.2 q
  · rw [e] at q; cases q
theorem Dt.carry (hb : BdOk G Bd H) (s : Stp G A H H') {A' : List Addr} (hA : ∀ a ∈ A', a ∈ A ∨ H a = none) {d : D} {v : V} (h : Dt G (okA Bd A) H d v) : Dt G (okA Bd A') H' d v := h.mono (carryK hb s hA) s.tup
theorem DtL.carry (hb : BdOk G Bd H) (s : Stp G A H H') {A' : List Addr} (hA : ∀ a ∈ A', a ∈ A ∨ H a = none) {ds : List D} {vs : List V} (h : DtL G (okA Bd A) H ds vs) : DtL G (okA Bd A') H' ds vs := h.mono (carryK hb s hA) s.tup
theorem Dt.ext {ok : Addr → Prop} (e : Ext H H') {d : D} {v : V} (h : Dt G ok H d v) : Dt G ok H' d v := h.mono (fun a o k q => ⟨k, e a o q⟩) fun a xs q => e a _ q
theorem DtL.ext {ok : Addr → Prop} (e : Ext H H') {ds : List D} {vs : List V} (h : DtL G ok H ds vs) : DtL G ok H' ds vs := h.mono (fun a o k q => ⟨k, e a o q⟩) fun a xs q => e a _ q
theorem OwD.ext {ok : Addr → Prop} (e : Ext H H') {d : D} {a : Addr} (h : OwD G ok H d a) : OwD G ok H' d a := by
  obtain ⟨o, q, _⟩ := h.notup
  exact h.mono (fun a o k q => ⟨k, e a o q⟩) (fun a xs q => e a _ q) ((e a o q).trans q.symm)
theorem DtB.ext {ok : Addr → Prop} (e : Ext H H') {d : D} {v : V} (h : DtB G ok H d v) : DtB G ok H' d v := by
  cases d <;> first | exact Dt.ext e h | (obtain ⟨a, C, dx, us, h1, h2, h3, h4, h5⟩ := h; exact ⟨a, C, dx, us, h1, h2, e a _ h3, h4, h5.ext e⟩) | (obtain ⟨a, q, r⟩ := h; exact ⟨a, q, r.ext e⟩)
theorem EnDs.ext {ok : Addr → Prop} (e : Ext H H') : ∀ {ρ : En} {σ : L2.St}, EnDs G ok H ρ σ → EnDs G ok H' ρ σ
  | [], [], _ => trivial
  | s :: ρ, o :: σ, h => ⟨by
      cases s with
      | emp => trivial
      | dat d => obtain ⟨v, q, r⟩ := h.1; exact ⟨v, q, r.ext e⟩
      | own d => obtain ⟨a, q, r⟩ := h.1; exact ⟨a, q, r.ext e⟩, EnDs.ext e h.2⟩
  | [], _ :: _, h => h.elim
  | _ :: _, [], h => h.elim
theorem EnD.ext (e : Ext H H') (h : EnD G Bd H ρ σ) : EnD G Bd H' ρ σ := ⟨h.sl.ext e, h.nd, h.nb⟩
theorem DkD.ext (e : Ext H H') (h : DkD G H w) : DkD G H' w := ⟨e _ _ h.dk, e _ _ h.gl⟩
/-- the deck over a step that leaves it -/
theorem EnDs.get {ok : Addr → Prop} : ∀ {ρ : En} {σ : L2.St} {i : Nat} {s : Sl}, EnDs G ok H ρ σ → ρ[i]? = some s → ∃ o, σ[i]? = some o ∧ SlD G ok H s o
  | [], _, _, _, _, e => by simp at e
  | s :: ρ, o :: σ, 0, s', h, e => by
    cases Option.some.inj (show some s = some s' by simpa using e)
    exact ⟨o, rfl, h.1⟩
  | s :: ρ, o :: σ, i + 1, s', h, e => by
    obtain ⟨p, a, b⟩ := EnDs.get (i := i) h.2 (show ρ[i]? = some s' by simpa using e)
    exact ⟨p, by simpa using a, b⟩
  | _ :: _, [], _, _, h, _ => h.elim
theorem EnDs.length {ok : Addr → Prop} : ∀ {ρ : En} {σ : L2.St}, EnDs G ok H ρ σ → ρ.length = σ.length
  | [], [], _ => rfl
  | s :: ρ, o :: σ, h => by rw [List.length_cons, List.length_cons, EnDs.length h.2]
  | [], _ :: _, h => h.elim
  | _ :: _, [], h => h.elim
theorem EnDs.mono {ok ok' : Addr → Prop} (hk : ∀ a o, ok a → H a = some o → ok' a ∧ H' a = some o) (ht : ∀ a xs, H a = some (.tup xs) → H' a = some (.tup xs)) : ∀ {ρ : En} {σ : L2.St}, (∀ a ∈ owns ρ σ, H' a = H a) → EnDs G ok H ρ σ → EnDs G ok' H' ρ σ
  | [], [], _, _ => trivial
  | s :: ρ, o :: σ, ho, h => by
    have ho' : ∀ a ∈ owns ρ σ, H' a = H a := fun a ha => ho a (by
      cases s <;> first | exact ha | skip
      cases o with
      | none => exact ha
      | some v => cases v <;> first | exact ha | exact List.mem_cons_of_mem _ ha)
    refine ⟨?_, EnDs.mono hk ht ho' h.2⟩
    cases s with
    | emp => trivial
    | dat d => obtain ⟨v, q, r⟩ := h.1; exact ⟨v, q, r.mono hk ht⟩
    | own d =>
      obtain ⟨a, q, r⟩ := h.1
      subst q
      exact ⟨a, rfl, r.mono hk ht (ho a List.mem_cons_self)⟩
  | [], _ :: _, _, h => h.elim
  | _ :: _, [], _, h => h.elim
theorem owns_mem {ok : Addr → Prop} : ∀ {ρ : En} {σ : L2.St} {a : Addr}, a ∈ owns ρ σ → ∃ (i : Nat) (d : D), ρ[i]? = some (Sl.own d) ∧ σ[i]? = some (some (V.ref a))
  | [], _, _, h => by simp [owns] at h
  | s :: ρ, [], _, h => by cases s <;> simp [owns] at h
  | s :: ρ, o :: σ, a, h => by
    have up : (∃ (i : Nat) (d : D), ρ[i]? = some (Sl.own d) ∧ σ[i]? = some (some (V.ref a))) → ∃ (i : Nat) (d : D), (s :: ρ)[i]? = some (Sl.own d) ∧ (o :: σ)[i]? = some (some (V.ref a)) := fun ⟨i, d, p, q⟩ => ⟨i + 1, d, by simpa using p, by simpa using q⟩
    cases s with
    | emp => exact up (owns_mem (ok := ok) h)
    | dat d => exact up (owns_mem (ok := ok) h)
    | own d =>
      cases o with
      | none => exact up (owns_mem (ok := ok) h)
      | some v =>
        cases v <;> first | exact up (owns_mem (ok := ok) h) | skip
        rcases List.mem_cons.mp h with e | h
        · subst e
          exact ⟨0, d, rfl, rfl⟩
        · exact up (owns_mem (ok := ok) h)
theorem mem_owns : ∀ {ρ : En} {σ : L2.St} {a : Addr} {i : Nat} {d : D}, ρ[i]? = some (Sl.own d) → σ[i]? = some (some (V.ref a)) → a ∈ owns ρ σ
  | [], _, _, _, _, h, _ => by simp at h
  | s :: ρ, [], _, _, _, _, h => by simp at h
  | s :: ρ, o :: σ, a, 0, d, h, q => by
    cases Option.some.inj (show some s = some (Sl.own d) by simpa using h)
    cases Option.some.inj (show some o = some (some (V.ref a)) by simpa using q)
    exact List.mem_cons_self
  | s :: ρ, o :: σ, a, i + 1, d, h, q => by
    have m : a ∈ owns ρ σ := mem_owns (i := i) (by simpa using h) (by simpa using q)
    cases s <;> first | exact m | skip
    cases o with
    | none => exact m
    | some v => cases v <;> first | exact m | exact List.mem_cons_of_mem _ m
end
end DL
set_option maxRecDepth 100000
set_option maxHeartbeats 2000000
set_option linter.all false
namespace DL
open PySem PySem.Spec PyProof.Rows L2
section
variable {G : GC} {Bd : Addr → Prop} {A B : List Addr} {H H1 H2 H' : Hp} {ρ : En} {σ : L2.St} {w : DW}
theorem owns_nil_r (ρ : En) : owns ρ [] = [] := by cases ρ with
  | nil => rfl
  | cons s ρ => cases s <;> rfl
theorem owns_nn {s : Sl} {o : Option V} {ρ : En} {σ : L2.St} (hs : ∀ d, s ≠ .own d) : owns (s :: ρ) (o :: σ) = owns ρ σ := by
  cases s with
  | own d => exact absurd rfl (hs d)
  | emp => rfl
  | dat d => rfl
theorem owns_tail {s : Sl} {o : Option V} {ρ : En} {σ : L2.St} : (owns ρ σ).Sublist (owns (s :: ρ) (o :: σ)) := by
  cases s with
  | emp => exact List.Sublist.refl _
  | dat d => exact List.Sublist.refl _
  | own d =>
    cases o with
    | none => exact List.Sublist.refl _
    | some v => cases v <;> first | exact List.Sublist.refl _ | exact List.sublist_cons_self _ _
theorem owns_cons_mono {s : Sl} {o : Option V} {ρ ρ' : En} {σ σ' : L2.St} (h : (owns ρ' σ').Sublist (owns ρ σ)) : (owns (s :: ρ') (o :: σ')).Sublist (owns (s :: ρ) (o :: σ)) := by
  cases s with
  | emp => exact h
  | dat d => exact h
  | own d =>
    cases o with
    | none => exact h
    | some v => cases v <;> first | exact h | exact h.cons_cons _
/-- a slot that is stored without ownership -/
theorem owns_set_sub {s : Sl} (hs : ∀ d, s ≠ .own d) : ∀ {ρ : En} {σ : L2.St} (i : Nat) (o : Option V), (owns (ρ.set i s) (σ.set i o)).Sublist (owns ρ σ)
  | [], σ, i, o => by simp [owns]
  | t :: ρ, [], i, o => by
    rw [List.set_nil, owns_nil_r]
    exact List.nil_sublist _
  | t :: ρ, p :: σ, 0, o => by
    show (owns (s :: ρ) (o :: σ)).Sublist _
    rw [owns_nn hs]
    exact owns_tail
  | t :: ρ, p :: σ, i + 1, o => by
    show (owns (t :: ρ.set i s) (p :: σ.set i o)).Sublist _
    exact owns_cons_mono (owns_set_sub hs i o)
theorem owns_set_sub' {s : Sl} (hs : ∀ d, s ≠ .own d) : ∀ {ρ : En} {σ : L2.St} (i : Nat), (owns (ρ.set i s) σ).Sublist (owns ρ σ)
  | [], σ, i => by simp [owns]
  | t :: ρ, [], i => by
    rw [owns_nil_r]
    exact List.nil_sublist _
  | t :: ρ, p :: σ, 0 => by
    show (owns (s :: ρ) (p :: σ)).Sublist _
    rw [owns_nn hs]
    exact owns_tail
  | t :: ρ, p :: σ, i + 1 => by
    show (owns (t :: ρ.set i s) (p :: σ)).Sublist _
    exact owns_cons_mono (owns_set_sub' hs i)
theorem owns_set_own {d : D} {a : Addr} : ∀ {ρ : En} {σ : L2.St} (i : Nat), i < ρ.length → i < σ.length → (owns (ρ.set i (.own d)) (σ.set i (some (.ref a)))).Perm (a :: owns (ρ.set i .emp) (σ.set i none))
  | [], σ, i, h, _ => by simp at h
  | t :: ρ, [], i, _, h => by simp at h
  | t :: ρ, p :: σ, 0, _, _ => by
    show (a :: owns ρ σ).Perm (a :: owns ρ σ)
    exact List.Perm.refl _
  | t :: ρ, p :: σ, i + 1, h1, h2 => by
    have ih := owns_set_own (d := d) (a := a) (ρ := ρ) (σ := σ) i (by simpa using h1) (by simpa using h2)
    show (owns (t :: ρ.set i (.own d)) (p :: σ.set i (some (.ref a)))).Perm (a :: owns (t :: ρ.set i .emp) (p :: σ.set i none))
    cases t with
    | emp => exact ih
    | dat e => exact ih
    | own e =>
      cases p with
      | none => exact ih
      | some v => cases v <;> first | exact ih | exact (ih.cons _).trans (List.Perm.swap _ _ _)
theorem EnDs.set {ok : Addr → Prop} {s : Sl} {o : Option V} (hs : SlD G ok H s o) : ∀ {ρ : En} {σ : L2.St} (i : Nat), EnDs G ok H ρ σ → EnDs G ok H (ρ.set i s) (σ.set i o)
  | [], [], i, _ => trivial
  | t :: ρ, p :: σ, 0, h => ⟨hs, h.2⟩
  | t :: ρ, p :: σ, i + 1, h => ⟨h.1, EnDs.set hs i h.2⟩
  | [], _ :: _, _, h => h.elim
  | _ :: _, [], _, h => h.elim
theorem EnDs.setL {ok : Addr → Prop} {s : Sl} : ∀ {ρ : En} {σ : L2.St} (i : Nat), (∀ o, σ[i]? = some o → SlD G ok H s o) → EnDs G ok H ρ σ → EnDs G ok H (ρ.set i s) σ
  | [], [], i, _, _ => trivial
  | t :: ρ, p :: σ, 0, hs, h => ⟨hs p rfl, h.2⟩
  | t :: ρ, p :: σ, i + 1, hs, h => ⟨h.1, EnDs.setL i (fun o e => hs o (by simpa using e)) h.2⟩
  | [], _ :: _, _, _, h => h.elim
  | _ :: _, [], _, _, h => h.elim
theorem okA_sub {A A' : List Addr} (h : ∀ a ∈ A', a ∈ A) {a : Addr} (k : okA Bd A a) : okA Bd A' a := ⟨k.1, fun z => k.2 (h a z)⟩
/-- x = v -/
theorem EnD.setDat {d : D} {v : V} (en : EnD G Bd H ρ σ) (i : Nat) (hd : Dt G (okA Bd (owns ρ σ)) H d v) : EnD G Bd H (ρ.set i (.dat d)) (σ.set i (some v)) := by
  have sub := owns_set_sub (s := .dat d) (fun _ => by intro z; cases z) (ρ := ρ) (σ := σ) i (some v)
  refine ⟨?_, en.nd.sublist sub, fun a ha => en.nb a (sub.subset ha)⟩
  have h1 := EnDs.set (s := .dat d) (o := some v) ⟨v, rfl, hd⟩ i en.sl
  exact h1.mono (fun a o k e => ⟨okA_sub (fun b hb => sub.subset hb) k, e⟩) (fun _ _ e => e) fun _ _ => rfl
theorem EnD.setEmp (en : EnD G Bd H ρ σ) (i : Nat) (o : Option V) : EnD G Bd H (ρ.set i .emp) (σ.set i o) := by
  have sub := owns_set_sub (s := .emp) (fun _ => by intro z; cases z) (ρ := ρ) (σ := σ) i o
  refine ⟨?_, en.nd.sublist sub, fun a ha => en.nb a (sub.subset ha)⟩
  have h1 := EnDs.set (s := .emp) (o := o) trivial i en.sl
  exact h1.mono (fun a o k e => ⟨okA_sub (fun b hb => sub.subset hb) k, e⟩) (fun _ _ e => e) fun _ _ => rfl
/-- an owned slot is owned no more -/
theorem EnD.freeze {d : D} {i : Nat} (en : EnD G Bd H ρ σ) (hi : ρ[i]? = some (.own d)) : ∃ a, σ[i]? = some (some (.ref a)) ∧ EnD G Bd H (ρ.set i (.dat d)) σ ∧ (∀ b ∈ owns (ρ.set i (.dat d)) σ, b ∈ owns ρ σ) ∧ Dt G (okA Bd (owns (ρ.set i (.dat d)) σ)) H d (.ref a) := by
  obtain ⟨o, ho, a, e, ow⟩ := en.sl.get hi
  subst e
  have sub := owns_set_sub' (s := .dat d) (fun _ => by intro z; cases z) (ρ := ρ) (σ := σ) i
  have ma : a ∈ owns ρ σ := mem_owns hi ho
  have na : a ∉ owns (ρ.set i (.dat d)) σ := by
    have hl : i < ρ.length := (List.getElem?_eq_some_iff.mp hi).1
    have hl2 : i < σ.length := (List.getElem?_eq_some_iff.mp ho).1
    have p := owns_set_own (d := d) (a := a) (ρ := ρ) (σ := σ) i hl hl2
    have e1 : ρ.set i (.own d) = ρ := by
      apply List.ext_getElem?
      intro j
      rw [List.getElem?_set]
      split
      · rename_i h
        subst h
        exact hi.symm
      · rfl
    have e2 : σ.set i (some (.ref a)) = σ := by
      apply List.ext_getElem?
      intro j
      rw [List.getElem?_set]
      split
      · rename_i h
        subst h
        exact ho.symm
      · rfl
    rw [e1, e2] at p
    have nd := p.nodup_iff.mp en.nd
    have n1 := (List.nodup_cons.mp nd).1
    intro z
    apply n1
    -- the two erasures agree
    have eqo : ∀ {ρ : En} {σ : L2.St} (i : Nat), owns (ρ.set i (.dat d)) σ = owns (ρ.set i .emp) (σ.set i none) := by
      intro ρ
      induction ρ with
      | nil => intro σ i; simp [owns]
      | cons t ρ ih =>
        intro σ i
        cases σ with
        | nil => rw [List.set_nil, owns_nil_r, owns_nil_r]
        | cons q σ =>
          cases i with
          | zero => rfl
          | succ i =>
            show owns (t :: ρ.set i (.dat d)) (q :: σ) = owns (t :: ρ.set i .emp) (q :: σ.set i none)
            have := ih (σ := σ) i
            cases t with
            | emp => exact this
            | dat e => exact this
            | own e =>
              cases q with
              | none => exact this
              | some v => cases v <;> first | exact this | exact congrArg (List.cons _) this
    rw [eqo i] at z
    exact z
  have weak : ∀ b o, okA Bd (owns ρ σ) b → H b = some o → okA Bd (owns (ρ.set i (.dat d)) σ) b ∧ H b = some o := fun b o k e => ⟨okA_sub (fun c hc => sub.subset hc) k, e⟩
  have ow' : OwD G (okA Bd (owns (ρ.set i (.dat d)) σ)) H d a := ow.mono weak (fun _ _ e => e) rfl
  have dt := ow'.toDt ⟨en.nb a ma, na⟩
  refine ⟨a, ho, ⟨?_, en.nd.sublist sub, fun b hb => en.nb b (sub.subset hb)⟩, fun b hb => sub.subset hb, dt⟩
  refine EnDs.setL i (fun o e => ?_) (en.sl.mono weak (fun _ _ e => e) fun _ _ => rfl)
  rw [ho] at e
  cases e
  exact ⟨_, rfl, dt⟩
/-- x = a new object -/
theorem EnD.setOwn {d : D} {a : Addr} (en : EnD G Bd H ρ σ) (hb : BdOk G Bd H) (i : Nat) (hl : i < ρ.length) (ha : H a = none) (e : Ext H H') (ow : OwD G (fun b => okA Bd (owns ρ σ) b ∧ b ≠ a) H' d a) : EnD G Bd H' (ρ.set i (.own d)) (σ.set i (some (.ref a))) ∧
    (∀ b ∈ owns (ρ.set i (.own d)) (σ.set i (some (.ref a))), b ∈ owns ρ σ ∨ b = a) := by
  have hl2 : i < σ.length := by rw [← en.sl.length]; exact hl
  have p := owns_set_own (d := d) (a := a) (ρ := ρ) (σ := σ) i hl hl2
  have sub := owns_set_sub (s := .emp) (fun _ => by intro z; cases z) (ρ := ρ) (σ := σ) i none
  have ins : ∀ b ∈ owns (ρ.set i (.own d)) (σ.set i (some (.ref a))), b ∈ owns ρ σ ∨ b = a := fun b hb => by
    rcases List.mem_cons.mp (p.mem_iff.mp hb) with z | z
    · exact .inr z
    · exact .inl (sub.subset z)
  have na : a ∉ owns ρ σ := fun z => by
    obtain ⟨j, d', h1, h2⟩ := owns_mem (ok := okA Bd (owns ρ σ)) z
    obtain ⟨o, h3, a', h4, h5⟩ := en.sl.get h1
    rw [h2] at h3
    cases h3
    cases h4
    obtain ⟨o, h6, _⟩ := h5.notup
    rw [ha] at h6
    cases h6
  have nba : ¬ Bd a := fun z => hb.there a z ha
  refine ⟨⟨?_, ?_, fun b hb => ?_⟩, ins⟩
  · have keep : ∀ b o, okA Bd (owns ρ σ) b → H b = some o → okA Bd (owns (ρ.set i (.own d)) (σ.set i (some (.ref a)))) b ∧ H' b = some o := fun b o k q => by
      refine ⟨⟨k.1, fun z => ?_⟩, e b o q⟩
      rcases ins b z with z | z
      · exact k.2 z
      · rw [z, ha] at q
        cases q
    have same : ∀ b ∈ owns ρ σ, H' b = H b := fun b hb => by
      obtain ⟨j, d', h1, h2⟩ := owns_mem (ok := okA Bd (owns ρ σ)) hb
      obtain ⟨o, h3, a', h4, h5⟩ := en.sl.get h1
      rw [h2] at h3
      cases h3
      cases h4
      obtain ⟨o, h6, _⟩ := h5.notup
      rw [e b o h6, h6]
    have ow' : OwD G (okA Bd (owns (ρ.set i (.own d)) (σ.set i (some (.ref a))))) H' d a := ow.mono (fun b o k q => by
      refine ⟨⟨k.1.1, fun z => ?_⟩, q⟩
      rcases ins b z with z | z
      · exact k.1.2 z
      · exact k.2 z) (fun _ _ q => q) rfl
    exact EnDs.set (s := .own d) (o := some (.ref a)) ⟨a, rfl, ow'⟩ i (en.sl.mono keep (fun b xs q => e b _ q) same)
  · rw [p.nodup_iff]
    exact List.nodup_cons.mpr ⟨fun z => na (sub.subset z), en.nd.sublist sub⟩
  · rcases ins b hb with z | z
    · exact en.nb b z
    · rw [z]
      exact nba
/-- the object of an owned slot is changed -/
theorem EnD.change {d d' : D} {i : Nat} {a : Addr} {o : HO} (en : EnD G Bd H ρ σ) (hi : ρ[i]? = some (.own d)) (hs : σ[i]? = some (some (.ref a))) (ow : OwD G (okA Bd (owns ρ σ)) (upd H a o) d' a) :
    EnD G Bd (upd H a o) (ρ.set i (.own d')) σ ∧ owns (ρ.set i (.own d')) σ = owns ρ σ := by
  have hl : i < ρ.length := (List.getElem?_eq_some_iff.mp hi).1
  have ma : a ∈ owns ρ σ := mem_owns hi hs
  have same : ∀ {ρ : En} {σ : L2.St} (i : Nat), ρ[i]? = some (.own d) → owns (ρ.set i (.own d')) σ = owns ρ σ := by
    intro ρ
    induction ρ with
    | nil => intro σ i h; simp at h
    | cons t ρ ih =>
      intro σ i h
      cases σ with
      | nil => rw [owns_nil_r, owns_nil_r]
      | cons q σ =>
        cases i with
        | zero =>
          cases Option.some.inj (show some t = some (Sl.own d) by simpa using h)
          cases q with
          | none => rfl
          | some v => cases v <;> rfl
        | succ i =>
          have := ih (σ := σ) i (by simpa using h)
          show owns (t :: ρ.set i (.own d')) (q :: σ) = owns (t :: ρ) (q :: σ)
          cases t with
          | emp => exact this
          | dat e => exact this
          | own e =>
            cases q with
            | none => exact this
            | some v => cases v <;> first | exact this | exact congrArg (List.cons _) this
  have so := same (σ := σ) i hi
  obtain ⟨oo, ho, a', e', owo⟩ := en.sl.get hi
  rw [hs] at ho
  cases ho
  cases e'
  obtain ⟨u, hu, hnt⟩ := owo.notup
  refine ⟨⟨?_, by rw [so]; exact en.nd, by rw [so]; exact en.nb⟩, so⟩
  rw [so]
  -- all other slots stand
  have go : ∀ {ρ' : En} {σ' : L2.St} (j : Nat), ρ'[j]? = some (.own d) → σ'[j]? = some (some (.ref a)) → (owns ρ' σ').Nodup → (∀ b ∈ owns ρ' σ', b ∈ owns ρ σ) → EnDs G (okA Bd (owns ρ σ)) H ρ' σ' → EnDs G (okA Bd (owns ρ σ)) (upd H a o) (ρ'.set j (.own d')) σ' := by
    have stays : ∀ {ρ' : En} {σ' : L2.St}, a ∉ owns ρ' σ' → EnDs G (okA Bd (owns ρ σ)) H ρ' σ' → EnDs G (okA Bd (owns ρ σ)) (upd H a o) ρ' σ' := fun {ρ' σ'} hn hh => by
      refine hh.mono (fun b u k q => ⟨k, ?_⟩) (fun b xs q => ?_) fun b hb => upd_ne (fun z => hn (by rw [← z]; exact hb))
      · rw [upd_ne (fun z => k.2 (by rw [z]; exact ma))]
        exact q
      · rw [upd_ne (fun z => by subst z; rw [hu] at q; cases q; exact hnt xs rfl)]
        exact q
    intro ρ'
    induction ρ' with
    | nil => intro σ' j h; simp at h
    | cons t ρ' ih =>
      intro σ' j h1 h2 nd sb hh
      cases σ' with
      | nil => exact hh.elim
      | cons q σ' =>
        cases j with
        | zero =>
          cases Option.some.inj (show some t = some (Sl.own d) by simpa using h1)
          cases Option.some.inj (show some q = some (some (V.ref a)) by simpa using h2)
          exact ⟨⟨a, rfl, ow⟩, stays (List.nodup_cons.mp nd).1 hh.2⟩
        | succ j =>
          have m' : a ∈ owns ρ' σ' := mem_owns (i := j) (by simpa using h1) (by simpa using h2)
          refine ⟨?_, ih j (by simpa using h1) (by simpa using h2) (nd.sublist owns_tail) (fun b hb => sb b (owns_tail.subset hb)) hh.2⟩
          cases t with
          | emp => trivial
          | dat e =>
            obtain ⟨v, q1, q2⟩ := hh.1
            refine ⟨v, q1, q2.mono (fun b u k q => ⟨k, ?_⟩) fun b xs q => ?_⟩
            · rw [upd_ne (fun z => k.2 (by rw [z]; exact ma))]
              exact q
            · rw [upd_ne (fun z => by subst z; rw [hu] at q; cases q; exact hnt xs rfl)]
              exact q
          | own e =>
            obtain ⟨c, q1, q2⟩ := hh.1
            subst q1
            have nc : c ≠ a := fun z => by
              subst z
              exact (List.nodup_cons.mp nd).1 m'
            refine ⟨c, rfl, q2.mono (fun b u k q => ⟨k, ?_⟩) (fun b xs q => ?_) (upd_ne nc)⟩
            · rw [upd_ne (fun z => k.2 (by rw [z]; exact ma))]
              exact q
            · rw [upd_ne (fun z => by subst z; rw [hu] at q; cases q; exact hnt xs rfl)]
              exact q
  exact go i hi hs en.nd (fun _ h => h) en.sl
end
end DL
set_option maxRecDepth 100000
set_option maxHeartbeats 2000000
set_option linter.all false
namespace DL
open PySem PySem.Spec PyProof.Rows L2
/-! ### what a piece of code comes to -/
/-- an error: its class, its fields -/
structure Er where
  cls : Str
  ns : List Str
  vs : List D
/-- of an expression -/
inductive R (α : Type) where
  | ok (a : α) (ρ : En) (w : DW) | exc (x : Er) (ρ : En) (w : DW) | stuck
/-- of a call -/
inductive RW where
  | ok (d : D) (w : DW) | exc (x : Er) (w : DW) | stuck
/-- of a statement -/
inductive RS where
  | nx (ρ : En) (w : DW) | rt (d : D) (w : DW) | bk (ρ : En) (w : DW) | ct (ρ : En) (w : DW) | exc (x : Er) (ρ : En) (w : DW) | stuck
def R.bind {α β : Type} (r : R α) (k : α → En → DW → R β) : R β := match r with
  | .ok a ρ w => k a ρ w
  | .exc x ρ w => .exc x ρ w
  | .stuck => .stuck
def R.bindS {α : Type} (r : R α) (k : α → En → DW → RS) : RS := match r with
  | .ok a ρ w => k a ρ w
  | .exc x ρ w => .exc x ρ w
  | .stuck => .stuck
def RW.at (r : RW) (ρ : En) : R D := match r with
  | .ok d w => .ok d ρ w
  | .exc x w => .exc x ρ w
  | .stuck => .stuck
def RS.seq (r : RS) (k : En → DW → RS) : RS := match r with
  | .nx ρ w => k ρ w
  | r => r
abbrev Fn := List D → DW → RW
def ExD (G : GC) (ok : Addr → Prop) (H : Hp) (x : Er) (cls : Value) (dd : Option Addr) : Prop :=
  ∃ C, cls = .ref C ∧ G.ct x.cls = some C ∧ ((x.ns = [] ∧ x.vs = [] ∧ dd = none) ∨ ∃ d us, dd = some d ∧ H d = some (.xd us) ∧ us.map (·.1) = x.ns ∧ DtL G ok H x.vs (us.map (·.2)))
abbrev RelD := (Addr → Prop) → Hp → D → V → Prop
/-- the post of an expression's reading -/
def PostE (G : GC) (W : WX) (rel : RelD) (Bd : Addr → Prop) (ρ0 : En) (σ : L2.St) (H : Hp) (r : R D) (Q : VK) : Prop := match r with
  | .ok d ρ w => ∀ v H', Stp G (owns ρ0 σ) H H' → EnD G Bd H' ρ σ → (∀ a ∈ owns ρ σ, a ∈ owns ρ0 σ) → DkD G H' w → rel (okA Bd (owns ρ σ)) H' d v → Q v H'
  | .exc x ρ w => ∀ cls dd H', Stp G (owns ρ0 σ) H H' → EnD G Bd H' ρ σ → (∀ a ∈ owns ρ σ, a ∈ owns ρ0 σ) → DkD G H' w → ExD G (okA Bd (owns ρ σ)) H' x cls dd → W cls dd σ H'
  | .stuck => False
def PostL (G : GC) (W : WX) (Bd : Addr → Prop) (ρ0 : En) (σ : L2.St) (H : Hp) (r : R (List D)) (Q : List V → Hp → Prop) : Prop := match r with
  | .ok ds ρ w => ∀ vs H', Stp G (owns ρ0 σ) H H' → EnD G Bd H' ρ σ → (∀ a ∈ owns ρ σ, a ∈ owns ρ0 σ) → DkD G H' w → DtL G (okA Bd (owns ρ σ)) H' ds vs → Q vs H'
  | .exc x ρ w => ∀ cls dd H', Stp G (owns ρ0 σ) H H' → EnD G Bd H' ρ σ → (∀ a ∈ owns ρ σ, a ∈ owns ρ0 σ) → DkD G H' w → ExD G (okA Bd (owns ρ σ)) H' x cls dd → W cls dd σ H'
  | .stuck => False
/-- a new object is handed on -/
def PostF (G : GC) (W : WX) (Bd : Addr → Prop) (ρ0 : En) (σ : L2.St) (H : Hp) (r : R D) (Q : VK) : Prop := match r with
  | .ok d ρ w => ∀ a H1 H', Stp G (owns ρ0 σ) H H1 → EnD G Bd H1 ρ σ → (∀ a ∈ owns ρ σ, a ∈ owns ρ0 σ) → DkD G H1 w → H1 a = none → Ext H1 H' → OwD G (fun b => okA Bd (owns ρ σ) b ∧ b ≠ a) H' d a → Q (.ref a) H'
  | .exc x ρ w => ∀ cls dd H', Stp G (owns ρ0 σ) H H' → EnD G Bd H' ρ σ → (∀ a ∈ owns ρ σ, a ∈ owns ρ0 σ) → DkD G H' w → ExD G (okA Bd (owns ρ σ)) H' x cls dd → W cls dd σ H'
  | .stuck => False
def PostT {α : Type} (G : GC) (W : WX) (Bd : Addr → Prop) (ρ0 : En) (σ : L2.St) (H : Hp) (r : R α) (Q : α → Hp → Prop) : Prop := match r with
  | .ok b ρ w => ∀ H', Stp G (owns ρ0 σ) H H' → EnD G Bd H' ρ σ → (∀ a ∈ owns ρ σ, a ∈ owns ρ0 σ) → DkD G H' w → Q b H'
  | .exc x ρ w => ∀ cls dd H', Stp G (owns ρ0 σ) H H' → EnD G Bd H' ρ σ → (∀ a ∈ owns ρ σ, a ∈ owns ρ0 σ) → DkD G H' w → ExD G (okA Bd (owns ρ σ)) H' x cls dd → W cls dd σ H'
  | .stuck => False
def PostN (G : GC) (Bd : Addr → Prop) (ρ0 : En) (σ0 : L2.St) (H : Hp) (ρ : En) (w : DW) (k : L2.St → Hp → Prop) : Prop :=
  ∀ σ H', Stp G (owns ρ0 σ0) H H' → EnD G Bd H' ρ σ → (∀ a ∈ owns ρ σ, a ∈ owns ρ0 σ0 ∨ H a = none) → DkD G H' w → k σ H'
def PostS (G : GC) (W : WX) (Bd : Addr → Prop) (ρ0 : En) (σ0 : L2.St) (H : Hp) (r : RS) (E : Ends) : Prop := match r with
  | .nx ρ w => PostN G Bd ρ0 σ0 H ρ w E.nx
  | .bk ρ w => PostN G Bd ρ0 σ0 H ρ w E.bk
  | .ct ρ w => PostN G Bd ρ0 σ0 H ρ w E.ct
  | .rt d w => ∀ v H', Stp G (owns ρ0 σ0) H H' → DkD G H' w → Dt G (fun a => ¬ Bd a) H' d v → E.rt v H'
  | .exc x ρ w => ∀ cls dd σ H', Stp G (owns ρ0 σ0) H H' → EnD G Bd H' ρ σ → (∀ a ∈ owns ρ σ, a ∈ owns ρ0 σ0 ∨ H a = none) → DkD G H' w → ExD G (okA Bd (owns ρ σ)) H' x cls dd → W cls dd σ H'
  | .stuck => False
/-- the state a reading starts from -/
structure At (G : GC) (Bd : Addr → Prop) (ρ : En) (w : DW) (σ : L2.St) (H : Hp) : Prop where
  bd : BdOk G Bd H
  en : EnD G Bd H ρ σ
  dk : DkD G H w
def tDr (G : GC) (W : WX) (rel : RelD) (f : En → DW → R D) : TE := fun σ H Q => ∃ Bd ρ w, At G Bd ρ w σ H ∧ PostE G W rel Bd ρ σ H (f ρ w) Q
abbrev tD (G : GC) (W : WX) (f : En → DW → R D) : TE := tDr G W (Dt G) f
abbrev tDB (G : GC) (W : WX) (f : En → DW → R D) : TE := tDr G W (DtB G) f
def tDF (G : GC) (W : WX) (f : En → DW → R D) : TE := fun σ H Q => ∃ Bd ρ w, At G Bd ρ w σ H ∧ PostF G W Bd ρ σ H (f ρ w) Q
def tDL (G : GC) (W : WX) (f : En → DW → R (List D)) : TA := fun σ H Q => ∃ Bd ρ w, At G Bd ρ w σ H ∧ PostL G W Bd ρ σ H (f ρ w) Q
def tDT (G : GC) (W : WX) (f : En → DW → R Bool) : TT := fun σ H Q => ∃ Bd ρ w, At G Bd ρ w σ H ∧ PostT G W Bd ρ σ H (f ρ w) Q
def tDS (G : GC) (W : WX) (f : En → DW → RS) : TS := fun E σ H => ∃ Bd ρ w, At G Bd ρ w σ H ∧ PostS G W Bd ρ σ H (f ρ w) E
section
variable {G : GC} {W : WX} {rel : RelD} {Bd : Addr → Prop} {H H1 H' : Hp} {ρ ρ0 ρ1 : En} {σ σ0 : L2.St} {w w1 : DW} {Q : VK}
theorem At.step {w1 : DW} (a : At G Bd ρ w σ H) (s : Stp G (owns ρ σ) H H1) (en : EnD G Bd H1 ρ1 σ) (dk : DkD G H1 w1) : At G Bd ρ1 w1 σ H1 := ⟨a.bd.step s, en, dk⟩
theorem At.ext (a : At G Bd ρ w σ H) (e : Ext H H1) : At G Bd ρ w σ H1 := ⟨a.bd.step (A := []) e.stp, a.en.ext e, a.dk.ext e⟩
theorem PostE.shift {r : R D} (s : Stp G (owns ρ0 σ) H H1) (sub : ∀ a ∈ owns ρ1 σ, a ∈ owns ρ0 σ) (h : PostE G W rel Bd ρ0 σ H r Q) : PostE G W rel Bd ρ1 σ H1 r Q := by
  cases r with
  | ok d ρ w => exact fun v H' s' en sb dk q => h v H' (s.trans s' fun a ha => .inl (sub a ha)) en (fun a ha => sub a (sb a ha)) dk q
  | exc x ρ w => exact fun c dd H' s' en sb dk q => h c dd H' (s.trans s' fun a ha => .inl (sub a ha)) en (fun a ha => sub a (sb a ha)) dk q
  | stuck => exact h
theorem PostL.shift {r : R (List D)} {Q : List V → Hp → Prop} (s : Stp G (owns ρ0 σ) H H1) (sub : ∀ a ∈ owns ρ1 σ, a ∈ owns ρ0 σ) (h : PostL G W Bd ρ0 σ H r Q) : PostL G W Bd ρ1 σ H1 r Q := by
  cases r with
  | ok d ρ w => exact fun v H' s' en sb dk q => h v H' (s.trans s' fun a ha => .inl (sub a ha)) en (fun a ha => sub a (sb a ha)) dk q
  | exc x ρ w => exact fun c dd H' s' en sb dk q => h c dd H' (s.trans s' fun a ha => .inl (sub a ha)) en (fun a ha => sub a (sb a ha)) dk q
  | stuck => exact h
theorem PostF.shift {r : R D} (s : Stp G (owns ρ0 σ) H H1) (sub : ∀ a ∈ owns ρ1 σ, a ∈ owns ρ0 σ) (h : PostF G W Bd ρ0 σ H r Q) : PostF G W Bd ρ1 σ H1 r Q := by
  cases r with
  | ok d ρ w => exact fun a H2 H' s' en sb dk n e q => h a H2 H' (s.trans s' fun a ha => .inl (sub a ha)) en (fun a ha => sub a (sb a ha)) dk n e q
  | exc x ρ w => exact fun c dd H' s' en sb dk q => h c dd H' (s.trans s' fun a ha => .inl (sub a ha)) en (fun a ha => sub a (sb a ha)) dk q
  | stuck => exact h
theorem PostT.shift {α : Type} {r : R α} {Q : α → Hp → Prop} (s : Stp G (owns ρ0 σ) H H1) (sub : ∀ a ∈ owns ρ1 σ, a ∈ owns ρ0 σ) (h : PostT G W Bd ρ0 σ H r Q) : PostT G W Bd ρ1 σ H1 r Q := by
  cases r with
  | ok d ρ w => exact fun H' s' en sb dk => h H' (s.trans s' fun a ha => .inl (sub a ha)) en (fun a ha => sub a (sb a ha)) dk
  | exc x ρ w => exact fun c dd H' s' en sb dk q => h c dd H' (s.trans s' fun a ha => .inl (sub a ha)) en (fun a ha => sub a (sb a ha)) dk q
  | stuck => exact h
theorem newold (s : Stp G (owns ρ0 σ0) H H1) (sub : ∀ a ∈ owns ρ1 σ, a ∈ owns ρ0 σ0 ∨ H a = none) {ρ : En} {σ' : L2.St} (sb : ∀ a ∈ owns ρ σ', a ∈ owns ρ1 σ ∨ H1 a = none) : ∀ a ∈ owns ρ σ', a ∈ owns ρ0 σ0 ∨ H a = none := fun a ha => by
  rcases sb a ha with z | z
  · exact sub a z
  · refine .inr ?_
    cases q : H a with
    | none => rfl
    | some o => exact absurd z (s.stay a (by rw [q]; simp))
theorem PostN.shift {k : L2.St → Hp → Prop} (s : Stp G (owns ρ0 σ0) H H1) (sub : ∀ a ∈ owns ρ1 σ, a ∈ owns ρ0 σ0 ∨ H a = none) (h : PostN G Bd ρ0 σ0 H ρ w k) : PostN G Bd ρ1 σ H1 ρ w k :=
  fun σ' H' s' en sb dk => h σ' H' (s.trans s' sub) en (newold s sub sb) dk
theorem PostS.shift {r : RS} {E : Ends} (s : Stp G (owns ρ0 σ0) H H1) (sub : ∀ a ∈ owns ρ1 σ, a ∈ owns ρ0 σ0 ∨ H a = none) (h : PostS G W Bd ρ0 σ0 H r E) : PostS G W Bd ρ1 σ H1 r E := by
  cases r with
  | nx ρ w => exact PostN.shift s sub h
  | bk ρ w => exact PostN.shift s sub h
  | ct ρ w => exact PostN.shift s sub h
  | rt d w => exact fun v H' s' dk q => h v H' (s.trans s' sub) dk q
  | exc x ρ w => exact fun c dd σ' H' s' en sb dk q => h c dd σ' H' (s.trans s' sub) en (newold s sub sb) dk q
  | stuck => exact h
/-- what one knows behind a part -/
structure Mid (G : GC) (Bd : Addr → Prop) (ρ0 ρ : En) (w : DW) (σ : L2.St) (H H' : Hp) : Prop where
  at_ : At G Bd ρ w σ H'
  stp : Stp G (owns ρ0 σ) H H'
  sub : ∀ a ∈ owns ρ σ, a ∈ owns ρ0 σ
/-- a part, then the rest -/
theorem PostE.bind {relA : RelD} {r : R D} {k : D → En → DW → R D} {N : VK} (a : At G Bd ρ w σ H) (h : PostE G W rel Bd ρ σ H (r.bind k) Q)
    (hk : ∀ d ρ1 w1 v H1, Mid G Bd ρ ρ1 w1 σ H H1 → relA (okA Bd (owns ρ1 σ)) H1 d v → PostE G W rel Bd ρ1 σ H1 (k d ρ1 w1) Q → N v H1) : PostE G W relA Bd ρ σ H r N := by
  cases r with
  | ok d ρ1 w1 => exact fun v H1 s en sb dk q => hk d ρ1 w1 v H1 ⟨a.step s en dk, s, sb⟩ q (h.shift s sb)
  | exc x ρ1 w1 => exact h
  | stuck => exact h
theorem PostE.bindL {r : R (List D)} {k : List D → En → DW → R D} {N : List V → Hp → Prop} (a : At G Bd ρ w σ H) (h : PostE G W rel Bd ρ σ H (r.bind k) Q)
    (hk : ∀ d ρ1 w1 v H1, Mid G Bd ρ ρ1 w1 σ H H1 → DtL G (okA Bd (owns ρ1 σ)) H1 d v → PostE G W rel Bd ρ1 σ H1 (k d ρ1 w1) Q → N v H1) : PostL G W Bd ρ σ H r N := by
  cases r with
  | ok d ρ1 w1 => exact fun v H1 s en sb dk q => hk d ρ1 w1 v H1 ⟨a.step s en dk, s, sb⟩ q (h.shift s sb)
  | exc x ρ1 w1 => exact h
  | stuck => exact h
theorem PostE.bindT {α : Type} {r : R α} {k : α → En → DW → R D} {N : α → Hp → Prop} (a : At G Bd ρ w σ H) (h : PostE G W rel Bd ρ σ H (r.bind k) Q)
    (hk : ∀ d ρ1 w1 H1, Mid G Bd ρ ρ1 w1 σ H H1 → PostE G W rel Bd ρ1 σ H1 (k d ρ1 w1) Q → N d H1) : PostT G W Bd ρ σ H r N := by
  cases r with
  | ok d ρ1 w1 => exact fun H1 s en sb dk => hk d ρ1 w1 H1 ⟨a.step s en dk, s, sb⟩ (h.shift s sb)
  | exc x ρ1 w1 => exact h
  | stuck => exact h
theorem PostF.bindL {r : R (List D)} {k : List D → En → DW → R D} {N : List V → Hp → Prop} (a : At G Bd ρ w σ H) (h : PostF G W Bd ρ σ H (r.bind k) Q)
    (hk : ∀ d ρ1 w1 v H1, Mid G Bd ρ ρ1 w1 σ H H1 → DtL G (okA Bd (owns ρ1 σ)) H1 d v → PostF G W Bd ρ1 σ H1 (k d ρ1 w1) Q → N v H1) : PostL G W Bd ρ σ H r N := by
  cases r with
  | ok d ρ1 w1 => exact fun v H1 s en sb dk q => hk d ρ1 w1 v H1 ⟨a.step s en dk, s, sb⟩ q (h.shift s sb)
  | exc x ρ1 w1 => exact h
  | stuck => exact h
theorem PostL.bind {r : R D} {k : D → En → DW → R (List D)} {N : VK} {Q : List V → Hp → Prop} (a : At G Bd ρ w σ H) (h : PostL G W Bd ρ σ H (r.bind k) Q)
    (hk : ∀ d ρ1 w1 v H1, Mid G Bd ρ ρ1 w1 σ H H1 → Dt G (okA Bd (owns ρ1 σ)) H1 d v → PostL G W Bd ρ1 σ H1 (k d ρ1 w1) Q → N v H1) : PostE G W (Dt G) Bd ρ σ H r N := by
  cases r with
  | ok d ρ1 w1 => exact fun v H1 s en sb dk q => hk d ρ1 w1 v H1 ⟨a.step s en dk, s, sb⟩ q (h.shift s sb)
  | exc x ρ1 w1 => exact h
  | stuck => exact h
theorem PostL.bindL {r : R (List D)} {k : List D → En → DW → R (List D)} {N : List V → Hp → Prop} {Q : List V → Hp → Prop} (a : At G Bd ρ w σ H) (h : PostL G W Bd ρ σ H (r.bind k) Q)
    (hk : ∀ d ρ1 w1 v H1, Mid G Bd ρ ρ1 w1 σ H H1 → DtL G (okA Bd (owns ρ1 σ)) H1 d v → PostL G W Bd ρ1 σ H1 (k d ρ1 w1) Q → N v H1) : PostL G W Bd ρ σ H r N := by
  cases r with
  | ok d ρ1 w1 => exact fun v H1 s en sb dk q => hk d ρ1 w1 v H1 ⟨a.step s en dk, s, sb⟩ q (h.shift s sb)
  | exc x ρ1 w1 => exact h
  | stuck => exact h
theorem PostT.bind {α : Type} {relA : RelD} {r : R D} {k : D → En → DW → R α} {N : VK} {Q : α → Hp → Prop} (a : At G Bd ρ w σ H) (h : PostT G W Bd ρ σ H (r.bind k) Q)
    (hk : ∀ d ρ1 w1 v H1, Mid G Bd ρ ρ1 w1 σ H H1 → relA (okA Bd (owns ρ1 σ)) H1 d v → PostT G W Bd ρ1 σ H1 (k d ρ1 w1) Q → N v H1) : PostE G W relA Bd ρ σ H r N := by
  cases r with
  | ok d ρ1 w1 => exact fun v H1 s en sb dk q => hk d ρ1 w1 v H1 ⟨a.step s en dk, s, sb⟩ q (h.shift s sb)
  | exc x ρ1 w1 => exact h
  | stuck => exact h
theorem PostT.bindT {α β : Type} {r : R α} {k : α → En → DW → R β} {N : α → Hp → Prop} {Q : β → Hp → Prop} (a : At G Bd ρ w σ H) (h : PostT G W Bd ρ σ H (r.bind k) Q)
    (hk : ∀ d ρ1 w1 H1, Mid G Bd ρ ρ1 w1 σ H H1 → PostT G W Bd ρ1 σ H1 (k d ρ1 w1) Q → N d H1) : PostT G W Bd ρ σ H r N := by
  cases r with
  | ok d ρ1 w1 => exact fun H1 s en sb dk => hk d ρ1 w1 H1 ⟨a.step s en dk, s, sb⟩ (h.shift s sb)
  | exc x ρ1 w1 => exact h
  | stuck => exact h
theorem PostS.ofExc {r : R D} {x : Er} {ρ1 : En} {w1 : DW} {E : Ends} (h : PostS G W Bd ρ σ H (.exc x ρ1 w1) E) : ∀ cls dd H', Stp G (owns ρ σ) H H' → EnD G Bd H' ρ1 σ → (∀ a ∈ owns ρ1 σ, a ∈ owns ρ σ) → DkD G H' w1 → ExD G (okA Bd (owns ρ1 σ)) H' x cls dd → W cls dd σ H' :=
  fun c dd H' s en sb dk q => h c dd σ H' s en (fun a ha => .inl (sb a ha)) dk q
theorem PostS.bind {relA : RelD} {r : R D} {k : D → En → DW → RS} {N : VK} {E : Ends} (a : At G Bd ρ w σ H) (h : PostS G W Bd ρ σ H (r.bindS k) E)
    (hk : ∀ d ρ1 w1 v H1, Mid G Bd ρ ρ1 w1 σ H H1 → relA (okA Bd (owns ρ1 σ)) H1 d v → PostS G W Bd ρ1 σ H1 (k d ρ1 w1) E → N v H1) : PostE G W relA Bd ρ σ H r N := by
  cases r with
  | ok d ρ1 w1 => exact fun v H1 s en sb dk q => hk d ρ1 w1 v H1 ⟨a.step s en dk, s, sb⟩ q (h.shift s fun a ha => .inl (sb a ha))
  | exc x ρ1 w1 => exact PostS.ofExc (r := .stuck) h
  | stuck => exact h
theorem PostS.bindF {r : R D} {k : D → En → DW → RS} {N : VK} {E : Ends} (a : At G Bd ρ w σ H) (h : PostS G W Bd ρ σ H (r.bindS k) E)
    (hk : ∀ d ρ1 w1 c H1 H2, Mid G Bd ρ ρ1 w1 σ H H1 → H1 c = none → Ext H1 H2 → OwD G (fun b => okA Bd (owns ρ1 σ) b ∧ b ≠ c) H2 d c → PostS G W Bd ρ1 σ H1 (k d ρ1 w1) E → N (.ref c) H2) : PostF G W Bd ρ σ H r N := by
  cases r with
  | ok d ρ1 w1 => exact fun c H1 H2 s en sb dk n e q => hk d ρ1 w1 c H1 H2 ⟨a.step s en dk, s, sb⟩ n e q (h.shift s fun a ha => .inl (sb a ha))
  | exc x ρ1 w1 => exact PostS.ofExc (r := .stuck) h
  | stuck => exact h
theorem PostS.bindL {r : R (List D)} {k : List D → En → DW → RS} {N : List V → Hp → Prop} {E : Ends} (a : At G Bd ρ w σ H) (h : PostS G W Bd ρ σ H (r.bindS k) E)
    (hk : ∀ d ρ1 w1 v H1, Mid G Bd ρ ρ1 w1 σ H H1 → DtL G (okA Bd (owns ρ1 σ)) H1 d v → PostS G W Bd ρ1 σ H1 (k d ρ1 w1) E → N v H1) : PostL G W Bd ρ σ H r N := by
  cases r with
  | ok d ρ1 w1 => exact fun v H1 s en sb dk q => hk d ρ1 w1 v H1 ⟨a.step s en dk, s, sb⟩ q (h.shift s fun a ha => .inl (sb a ha))
  | exc x ρ1 w1 => exact PostS.ofExc (r := .stuck) h
  | stuck => exact h
theorem PostS.bindT {r : R Bool} {k : Bool → En → DW → RS} {N : Bool → Hp → Prop} {E : Ends} (a : At G Bd ρ w σ H) (h : PostS G W Bd ρ σ H (r.bindS k) E)
    (hk : ∀ d ρ1 w1 H1, Mid G Bd ρ ρ1 w1 σ H H1 → PostS G W Bd ρ1 σ H1 (k d ρ1 w1) E → N d H1) : PostT G W Bd ρ σ H r N := by
  cases r with
  | ok d ρ1 w1 => exact fun H1 s en sb dk => hk d ρ1 w1 H1 ⟨a.step s en dk, s, sb⟩ (h.shift s fun a ha => .inl (sb a ha))
  | exc x ρ1 w1 => exact PostS.ofExc (r := .stuck) h
  | stuck => exact h
/-- a value is handed on -/
theorem PostE.here {d : D} {v : V} (a : At G Bd ρ w σ H) (h : PostE G W rel Bd ρ σ H (.ok d ρ w) Q) (r : rel (okA Bd (owns ρ σ)) H d v) : Q v H := h v H Stp.refl a.en (fun _ h => h) a.dk r
theorem PostE.next {d : D} {v : V} (a : At G Bd ρ w σ H) (h : PostE G W rel Bd ρ σ H (.ok d ρ w) Q) (e : Ext H H1) (r : rel (okA Bd (owns ρ σ)) H1 d v) : Q v H1 := h v H1 e.stp (a.en.ext e) (fun _ h => h) (a.dk.ext e) r
theorem PostE.imp {rel' : RelD} {r : R D} (h : PostE G W rel' Bd ρ σ H r Q) (hi : ∀ ok H d v, rel ok H d v → rel' ok H d v) : PostE G W rel Bd ρ σ H r Q := by
  cases r with
  | ok d ρ w => exact fun v H' s en sb dk q => h v H' s en sb dk (hi _ _ _ _ q)
  | exc x ρ w => exact h
  | stuck => exact h
/-- a new object is owned no more -/
theorem PostE.ofF {r : R D} (a : At G Bd ρ w σ H) (h : PostE G W (Dt G) Bd ρ σ H r Q) : PostF G W Bd ρ σ H r Q := by
  cases r with
  | ok d ρ1 w1 =>
    refine fun c H1 H2 s en sb dk n e ow => h (.ref c) H2 (s.trans (B := owns ρ1 σ) e.stp fun a ha => .inl (sb a ha)) (en.ext e) sb (dk.ext e) ?_
    have nb : ¬ Bd c := fun z => (a.bd.step s).there c z n
    have no : c ∉ owns ρ1 σ := fun z => by
      obtain ⟨j, d', h1, h2⟩ := owns_mem (ok := okA Bd (owns ρ1 σ)) z
      obtain ⟨o, h3, a', h4, h5⟩ := en.sl.get h1
      rw [h2] at h3
      cases h3
      cases h4
      obtain ⟨o, h6, _⟩ := h5.notup
      rw [n] at h6
      cases h6
    exact (ow.mono (fun b o k q => ⟨k.1, q⟩) (fun _ _ q => q) rfl).toDt ⟨nb, no⟩
  | exc x ρ w => exact h
  | stuck => exact h
end
end DL
set_option maxRecDepth 100000
set_option maxHeartbeats 2000000
set_option linter.all false
namespace DL
open PySem PySem.Spec PyProof.Rows L2
/-! ### the code, names with their slots -/
inductive Tg where
  | nm (x : Str) (i : Nat) | tup (xs : List (Str × Nat))
/-- an operator that an own class answers -/
inductive Ow2 where
  | bin (o : Operator) | cmp (o : CmpOp)
mutual
inductive PX where
  | var (x : Str) (i : Nat) | con (d : D) | glob (x : Str)
  | bin (o : Operator) (a b : PX) | neg (a : PX) | nt (a : PX)
  | and (a b : PX) | or (a b : PX)
  | cmp (o : CmpOp) (a b : PX) | chain (o p : CmpOp) (a b c : PX)
  | ife (c a b : PX)
  | tup (es : PXs) | lst (es : PXs) | dnew (t : Bool)
  | sub (a i : PX) | slc (a : PX) (lo hi : PXs) | rev (a : PX)
  | call (f : Str) (es : PXs) | callB (f : Str) (es : PXs) | sset (a : PX) | callK (f : Str) (es : PXs) (ks : List Str) (vs : PXs)
  | cmeth (c m : Str) (es : PXs) | cmethK (c m : Str) (ks : List Str) (vs : PXs)
  | b1 (f : Str) (a : PX) | bn (f : Str) (es : PXs)
  | mth (o : PX) (m : Str) (es : PXs) | imth (o : PX) (m : Str) (es : PXs) | prop (o : PX) (f : Str) | mut (x : Str) (i : Nat) (m : Str) (es : PXs)
  | fld (o : PX) (f : Str) | isi (a : PX) (t : Str)
  | lc (elt : PX) (tg : Tg) (it : PIt) (ifs : PXs) (own : List (Str × Nat))
  | joined (ps : PXs) | fmt (a : PX)
  | dcT (k v : PX) (tg : Tg) (it : PIt) (own : List (Str × Nat)) | own2 (g : Ow2) (a b : PX)
inductive PXs where
  | nil | cons (p : PX) (ps : PXs)
inductive PIt where
  | val (a : PX) | range1 (a : PX) | range2 (a b : PX) | zip2 (a b : PX) | zip3 (a b c : PX) | enum (a : PX) | enumK (a b : PX) | items (a : PX) | values (a : PX)
end
/-- what a law's program means, by names -/
structure Gm where
  con : Str → Option D
  fn : Str → Option Fn
  cm : Str → Str → Option Fn
  b1 : Str → Option (D → DW → RW)
  bF : Str → Option (D → Option D)
  bn : Str → Option (List D → Option D)
  m : Str → Option (Nat × (D → List D → Option D))
  im : Str → Option ((Str → List Str → Bool) × (D → List D → DW → RW))
  mu : Str → Option (Nat × (D → List D → Option (D × D)))
  sset : Option (D → Option D)
  set : D → D → D → Option D
  dcp : D → D → D → Option D
  own2 : Ow2 → D → D → DW → RW
  bin : Operator → D → D → DW → RW
  cmp : CmpOp → D → D → DW → RW
  tru : D → Option Bool
  get : D → D → DW → RW
  slc : D → Option Int → Option Int → Option D
  rev : D → Option D
  neg : D → Option D
  prop : Str → Option (D → DW → RW)
  isi : Str → Option (D → Option Bool)
  it : D → Option (List D)
  fo : Str → Str → Bool
  fmt : D → Option D
  ki : Str → List D → List Str → List D → Option (List D)
def fldD (fo : Str → Str → Bool) (f : Str) : D → Option D
  | .ins c ns vs => if fo c f then (ns.zip vs).lookup f else none
  | _ => none
def PX.ix : PX → Option Nat
  | .var _ i => some i
  | _ => none
def rd (ρ : En) (i : Nat) : Option D := match ρ[i]? with
  | some (.dat d) => some d
  | some (.own d) => some d
  | _ => none
def R.of {α : Type} (o : Option α) (ρ : En) (w : DW) : R α := match o with
  | some d => .ok d ρ w
  | none => .stuck
/-- read without handing on -/
def brw (p : PX) (f : En → DW → R D) : En → DW → R D := fun ρ w => match p.ix with
  | some i => R.of (rd ρ i) ρ w
  | none => f ρ w
/-- two parts; the first, where it is a name, is looked at behind the second -/
def two (a : PX) (fa fb : En → DW → R D) (k : D → D → En → DW → R D) : En → DW → R D := fun ρ w => match a.ix with
  | some i => if (rd ρ i).isSome then (fb ρ w).bind fun y ρ w => (match rd ρ i with
    | some x => k x y ρ w
    | none => .stuck) else .stuck
  | none => (fa ρ w).bind fun x ρ w => (fb ρ w).bind fun y ρ w => k x y ρ w
/-- which sort of data -/
def kindD : D → Nat
  | .non => 0
  | .bl _ => 1
  | .int _ => 2
  | .str _ => 3
  | .lst _ => 4
  | .tup _ => 5
  | .dK _ _ => 6
  | .dT _ _ => 6
  | .ins _ _ _ => 8
  | .deck => 9
def kindO : Option D → Option Nat
  | some d => some (kindD d)
  | none => none
/-- a name's object, then arguments -/
def twoL (kd : Nat) (a : PX) (fa : En → DW → R D) (fb : En → DW → R (List D)) (k : D → List D → En → DW → R D) : En → DW → R D := fun ρ w => match a.ix with
  | some i => if kindO (rd ρ i) = some kd then (fb ρ w).bind fun y ρ w => (match rd ρ i with
    | some x => k x y ρ w
    | none => .stuck) else .stuck
  | none => (fa ρ w).bind fun x ρ w => if kindD x = kd then (fb ρ w).bind fun y ρ w => k x y ρ w else .stuck
def asgD (tg : Tg) (d : D) (ρ : En) : Option En := match tg with
  | .nm _ i => some (ρ.set i (.dat d))
  | .tup xs => match d with
    | .tup ds => if ds.length = xs.length then some ((xs.zip ds).foldl (fun ρ p => ρ.set p.1.2 (.dat p.2)) ρ) else none
    | _ => none
def wipeE (ρ : En) : List Nat → En
  | [] => ρ
  | v :: vs => (wipeE ρ vs).set v .emp
def backE (ρ0 ρ : En) : List Nat → En
  | [] => ρ
  | v :: vs => (backE ρ0 ρ vs).set v (ρ0[v]?.getD .emp)
def free (ρ : En) (vs : List Nat) : Bool := vs.all fun v => match ρ[v]? with
  | some (.own _) => false
  | some _ => true
  | none => false
/-- the turns of a comprehension -/
def lcD (tg : Tg) (own : List Nat) (t : En → DW → R Bool) (f : En → DW → R D) : List D → List D → En → DW → R (List D)
  | [], acc, ρ, w => .ok acc ρ w
  | d :: ds, acc, ρ, w => if free ρ own then (match asgD tg d (wipeE ρ own) with
    | none => .stuck
    | some ρ1 => match t ρ1 w with
      | .ok true ρ2 w2 => (match f ρ2 w2 with
        | .ok x ρ3 w3 => if acc.length < 100000 then lcD tg own t f ds (acc ++ [x]) (backE ρ ρ3 own) w3 else .stuck
        | _ => .stuck)
      | .ok false ρ2 w2 => lcD tg own t f ds acc (backE ρ ρ2 own) w2
      | _ => .stuck) else .stuck
/-- the turns of a dict's comprehension -/
def dcD (tg : Tg) (own : List Nat) (put : D → D → D → Option D) (fk fv : En → DW → R D) : List D → D → En → DW → R D
  | [], acc, ρ, w => .ok acc ρ w
  | d :: ds, acc, ρ, w => if free ρ own then (match asgD tg d (wipeE ρ own) with
    | none => .stuck
    | some ρ1 => match fk ρ1 w with
      | .ok x ρ2 w2 => (match fv ρ2 w2 with
        | .ok y ρ3 w3 => (match put acc x y with
          | some acc' => dcD tg own put fk fv ds acc' (backE ρ ρ3 own) w3
          | none => .stuck)
        | _ => .stuck)
      | _ => .stuck) else .stuck
def intsD (lo hi : Int) : List D := (List.range (hi - lo).toNat).map fun i => .int (lo + (i : Nat))
def rng1 : D → Option (List D)
  | .int n => if -4611686018427387904 ≤ n ∧ n < 4611686018427387904 then some (intsD 0 n) else none
  | _ => none
def rng2 : D → D → Option (List D)
  | .int m, .int n => if (-4611686018427387904 ≤ m ∧ m < 4611686018427387904) ∧ -4611686018427387904 ≤ n ∧ n < 4611686018427387904 then some (intsD m n) else none
  | _, _ => none
def zipD : List D → List D → List D
  | a :: as, b :: bs => .tup [a, b] :: zipD as bs
  | _, _ => []
def enumD : Int → List D → List D
  | _, [] => []
  | i, a :: as => .tup [.int i, a] :: enumD (i + 1) as
def zips : D → D → Option (List D)
  | .lst xs, .lst ys => some (zipD xs ys)
  | .tup xs, .tup ys => some (zipD xs ys)
  | _, _ => none
def enums : D → Option (List D)
  | .lst xs => some (enumD 0 xs)
  | _ => none
def intD : D → Option (Option Int)
  | .int i => some (some i)
  | _ => none
def jnD (acc : Str) (d : D) (k : Str → En → DW → R D) (ρ : En) (w : DW) : R D := match d with
  | .str y => if (acc ++ y).length ≤ 1000000 then k (acc ++ y) ρ w else .stuck
  | _ => .stuck
def pairsD (ks : List Key) (vs : List D) : List D := zipD (ks.map fun k => match k with
  | .inl i => .int i
  | .inr s => .str s) vs
def itemsD : D → Option (List D)
  | .dK ks vs => some (pairsD ks vs)
  | _ => none
def valuesD : D → Option (List D)
  | .dK _ vs => some vs
  | _ => none
def isiD (F : Option (D → Option Bool)) (x : En → DW → R D) (ρ : En) (w : DW) : R D := match F with
  | some F => (x ρ w).bind fun x ρ w => R.of ((F x).map .bl) ρ w
  | none => .stuck
def mutD (F : D → List D → Option (D × D)) (i : Nat) (ds : List D) (ρ : En) (w : DW) : R D := match ρ[i]? with
  | some (.own d) => (match F d ds with
    | some (d', r) => .ok r (ρ.set i (.own d')) w
    | none => .stuck)
  | _ => .stuck
def ownK (i : Nat) (ρ : En) : Option Nat := match ρ[i]? with
  | some (.own d) => some (kindD d)
  | _ => none
def mutGD (F : Option (Nat × (D → List D → Option (D × D)))) (i : Nat) (es : En → DW → R (List D)) (ρ : En) (w : DW) : R D := match F with
  | some (kd, F) => if ownK i ρ = some kd then (es ρ w).bind fun ds ρ w => mutD F i ds ρ w else .stuck
  | none => .stuck
def b1D (FF : Option (D → Option D)) (F1 : Option (D → DW → RW)) (x : En → DW → R D) (ρ : En) (w : DW) : R D := match FF, F1 with
  | some F, _ => (x ρ w).bind fun x ρ w => R.of (F x) ρ w
  | none, some F => (x ρ w).bind fun x ρ w => (F x w).at ρ
  | none, none => .stuck
def op1D (F : Option (D → DW → RW)) (x : En → DW → R D) (ρ : En) (w : DW) : R D := match F with
  | some F => (x ρ w).bind fun x ρ w => (F x w).at ρ
  | none => .stuck
def bnD (F : Option (List D → Option D)) (x : En → DW → R (List D)) (ρ : En) (w : DW) : R D := match F with
  | some F => (x ρ w).bind fun x ρ w => R.of (F x) ρ w
  | none => .stuck
def mthD (F : Option (Nat × (D → List D → Option D))) (o : PX) (x : En → DW → R D) (es : En → DW → R (List D)) (ρ : En) (w : DW) : R D := match F with
  | some (kd, F) => twoL kd o x es (fun x ds ρ w => R.of (F x ds) ρ w) ρ w
  | none => .stuck
def clsD (cp : Str → List Str → Bool) : D → Bool
  | .ins c ns _ => cp c ns
  | _ => false
def imthD (F : Option ((Str → List Str → Bool) × (D → List D → DW → RW))) (x : En → DW → R D) (es : En → DW → R (List D)) (ρ : En) (w : DW) : R D := match F with
  | some (cp, F) => (x ρ w).bind fun x ρ w => if clsD cp x then (es ρ w).bind fun ds ρ w => (F x ds w).at ρ else .stuck
  | none => .stuck
def andD (o : Option Bool) (x : D) (f : En → DW → R D) (ρ : En) (w : DW) : R D := match o with
  | some true => f ρ w
  | some false => .ok x ρ w
  | none => .stuck
def orD (o : Option Bool) (x : D) (f : En → DW → R D) (ρ : En) (w : DW) : R D := match o with
  | some false => f ρ w
  | some true => .ok x ρ w
  | none => .stuck
def chainD (r : D) (f : En → DW → R D) (ρ : En) (w : DW) : R D := match r with
  | .bl true => f ρ w
  | .bl false => .ok (.bl false) ρ w
  | _ => .stuck
def varD (i : Nat) (ρ : En) (w : DW) : R D := match ρ[i]? with
  | some (.dat d) => .ok d ρ w
  | some (.own d) => .ok d (ρ.set i (.dat d)) w
  | _ => .stuck
def callD (F : Option Fn) (ds : En → DW → R (List D)) (ρ : En) (w : DW) : R D := match F with
  | some F => (ds ρ w).bind fun ds ρ w => (F ds w).at ρ
  | none => .stuck
def ssetD (F : Option (D → Option D)) (x : En → DW → R D) (ρ : En) (w : DW) : R D := match F with
  | some F => (x ρ w).bind fun x ρ w => R.of (F x) ρ w
  | none => .stuck
def flatD : D → Bool
  | .non => true
  | .bl _ => true
  | .int _ => true
  | .str _ => true
  | _ => false
def flatW : RW → RW
  | .ok d w => if flatD d then .ok d w else .stuck
  | _ => .stuck
def fillD (ρ : En) : List (Nat ⊕ D) → Option (List D)
  | [] => some []
  | .inl i :: zs => match rd ρ i, fillD ρ zs with
    | some d, some ds => some (d :: ds)
    | _, _ => none
  | .inr d :: zs => match fillD ρ zs with
    | some ds => some (d :: ds)
    | none => none
def argB (a : PX) (f : En → DW → R D) (ρ : En) (w : DW) : R (Nat ⊕ D) := match a.ix with
  | some i => if (rd ρ i).isSome then .ok (.inl i) ρ w else .stuck
  | none => (f ρ w).bind fun d ρ w => .ok (.inr d) ρ w
def callBD (F : Option Fn) (as : En → DW → R (List (Nat ⊕ D))) (ρ : En) (w : DW) : R D := match F with
  | some F => (as ρ w).bind fun zs ρ w => match fillD ρ zs with
    | some ds => (flatW (F ds w)).at ρ
    | none => .stuck
  | none => .stuck
def callKD (F : Option Fn) (ds us : En → DW → R (List D)) (ki : List D → List D → Option (List D)) (ρ : En) (w : DW) : R D := match F with
  | some F => (ds ρ w).bind fun ds ρ w => (us ρ w).bind fun us ρ w => match ki ds us with
    | some ds => (F ds w).at ρ
    | none => .stuck
  | none => .stuck
mutual
def ev (Γ : Gm) : PX → En → DW → R D
  | .var _ i, ρ, w => varD i ρ w
  | .con d, ρ, w => .ok d ρ w
  | .glob x, ρ, w => R.of (Γ.con x) ρ w
  | .bin o a b, ρ, w => two a (ev Γ a) (brw b (ev Γ b)) (fun x y ρ w => (Γ.bin o x y w).at ρ) ρ w
  | .cmp o a b, ρ, w => two a (ev Γ a) (brw b (ev Γ b)) (fun x y ρ w => (Γ.cmp o x y w).at ρ) ρ w
  | .chain o p a b c, ρ, w => (ev Γ a ρ w).bind fun x ρ w => (ev Γ b ρ w).bind fun y ρ w => ((Γ.cmp o x y w).at ρ).bind fun r ρ w => chainD r (fun ρ w => (ev Γ c ρ w).bind fun z ρ w => (Γ.cmp p y z w).at ρ) ρ w
  | .neg a, ρ, w => (ev Γ a ρ w).bind fun x ρ w => R.of (Γ.neg x) ρ w
  | .nt a, ρ, w => (brw a (ev Γ a) ρ w).bind fun x ρ w => R.of ((Γ.tru x).map fun b => .bl (!b)) ρ w
  | .and a b, ρ, w => (ev Γ a ρ w).bind fun x ρ w => andD (Γ.tru x) x (ev Γ b) ρ w
  | .or a b, ρ, w => (ev Γ a ρ w).bind fun x ρ w => orD (Γ.tru x) x (ev Γ b) ρ w
  | .ife c a b, ρ, w => (evT Γ c ρ w).bind fun t ρ w => if t then ev Γ a ρ w else ev Γ b ρ w
  | .tup es, ρ, w => (evs Γ es ρ w).bind fun ds ρ w => if ds.length ≤ 100000 then .ok (.tup ds) ρ w else .stuck
  | .lst es, ρ, w => (evs Γ es ρ w).bind fun ds ρ w => if ds.length ≤ 100000 then .ok (.lst ds) ρ w else .stuck
  | .dnew t, ρ, w => .ok (if t then .dT [] [] else .dK [] []) ρ w
  | .sub a i, ρ, w => two a (ev Γ a) (brw i (ev Γ i)) (fun x y ρ w => (Γ.get x y w).at ρ) ρ w
  | .slc a lo hi, ρ, w => (ev Γ a ρ w).bind fun x ρ w => (evO Γ lo ρ w).bind fun l ρ w => (evO Γ hi ρ w).bind fun h ρ w => R.of (Γ.slc x l h) ρ w
  | .rev a, ρ, w => (brw a (ev Γ a) ρ w).bind fun x ρ w => R.of (Γ.rev x) ρ w
  | .call f es, ρ, w => callD (Γ.fn f) (evs Γ es) ρ w
  | .callB f es, ρ, w => callBD (Γ.fn f) (evsB Γ es) ρ w
  | .sset a, ρ, w => ssetD Γ.sset (brw a (ev Γ a)) ρ w
  | .callK f es ks vs, ρ, w => callKD (Γ.fn f) (evs Γ es) (evs Γ vs) (fun ds us => Γ.ki f ds ks us) ρ w
  | .cmeth c m es, ρ, w => callD (Γ.cm c m) (evs Γ es) ρ w
  | .cmethK c m ks vs, ρ, w => callD (Γ.cm c m) (evs Γ vs) ρ w
  | .b1 f a, ρ, w => b1D (Γ.bF f) (Γ.b1 f) (brw a (ev Γ a)) ρ w
  | .bn f es, ρ, w => bnD (Γ.bn f) (evs Γ es) ρ w
  | .mth o m es, ρ, w => mthD (Γ.m m) o (ev Γ o) (evs Γ es) ρ w
  | .imth o m es, ρ, w => imthD (Γ.im m) (ev Γ o) (evs Γ es) ρ w
  | .mut _ i m es, ρ, w => mutGD (Γ.mu m) i (evs Γ es) ρ w
  | .fld o f, ρ, w => (brw o (ev Γ o) ρ w).bind fun x ρ w => R.of (fldD Γ.fo f x) ρ w
  | .prop o f, ρ, w => op1D (Γ.prop f) (ev Γ o) ρ w
  | .isi a t, ρ, w => isiD (Γ.isi t) (brw a (ev Γ a)) ρ w
  | .lc elt tg it ifs own, ρ, w => (evI Γ it ρ w).bind fun ds ρ w => (lcD tg (own.map (·.2)) (evTs Γ ifs) (ev Γ elt) ds [] ρ w).bind fun xs ρ w => .ok (.lst xs) ρ w
  | .joined ps, ρ, w => evJ Γ ps Str.empty ρ w
  | .fmt a, ρ, w => (ev Γ a ρ w).bind fun x ρ w => R.of (Γ.fmt x) ρ w
  | .own2 g a b, ρ, w => (ev Γ a ρ w).bind fun x ρ w => (ev Γ b ρ w).bind fun y ρ w => (Γ.own2 g x y w).at ρ
  | .dcT k v tg it own, ρ, w => (evI Γ it ρ w).bind fun ds ρ w => dcD tg (own.map (·.2)) Γ.dcp (ev Γ k) (ev Γ v) ds (.dT [] []) ρ w
def evT (Γ : Gm) : PX → En → DW → R Bool
  | .and a b, ρ, w => (evT Γ a ρ w).bind fun x ρ w => if x then evT Γ b ρ w else .ok false ρ w
  | .or a b, ρ, w => (evT Γ a ρ w).bind fun x ρ w => if x then .ok true ρ w else evT Γ b ρ w
  | .nt a, ρ, w => (evT Γ a ρ w).bind fun x ρ w => .ok (!x) ρ w
  | p, ρ, w => (brw p (ev Γ p) ρ w).bind fun d ρ w => R.of (Γ.tru d) ρ w
def evTs (Γ : Gm) : PXs → En → DW → R Bool
  | .nil, ρ, w => .ok true ρ w
  | .cons p .nil, ρ, w => evT Γ p ρ w
  | _, _, _ => .stuck
def evs (Γ : Gm) : PXs → En → DW → R (List D)
  | .nil, ρ, w => .ok [] ρ w
  | .cons p ps, ρ, w => (ev Γ p ρ w).bind fun d ρ w => (evs Γ ps ρ w).bind fun ds ρ w => .ok (d :: ds) ρ w
def evsB (Γ : Gm) : PXs → En → DW → R (List (Nat ⊕ D))
  | .nil, ρ, w => .ok [] ρ w
  | .cons p ps, ρ, w => (argB p (ev Γ p) ρ w).bind fun d ρ w => (evsB Γ ps ρ w).bind fun ds ρ w => .ok (d :: ds) ρ w
def evO (Γ : Gm) : PXs → En → DW → R (Option Int)
  | .nil, ρ, w => .ok none ρ w
  | .cons p .nil, ρ, w => (ev Γ p ρ w).bind fun d ρ w => R.of (intD d) ρ w
  | _, _, _ => .stuck
def evJ (Γ : Gm) : PXs → Str → En → DW → R D
  | .nil, acc, ρ, w => .ok (.str acc) ρ w
  | .cons p ps, acc, ρ, w => (ev Γ p ρ w).bind fun d ρ w => jnD acc d (evJ Γ ps) ρ w
def evI (Γ : Gm) : PIt → En → DW → R (List D)
  | .val a, ρ, w => (ev Γ a ρ w).bind fun d ρ w => R.of (Γ.it d) ρ w
  | .range1 a, ρ, w => (ev Γ a ρ w).bind fun d ρ w => R.of (rng1 d) ρ w
  | .range2 a b, ρ, w => (ev Γ a ρ w).bind fun d ρ w => (ev Γ b ρ w).bind fun e ρ w => R.of (rng2 d e) ρ w
  | .zip2 a b, ρ, w => (ev Γ a ρ w).bind fun d ρ w => (ev Γ b ρ w).bind fun e ρ w => R.of (zips d e) ρ w
  | .zip3 _ _ _, _, _ => .stuck
  | .enum a, ρ, w => (ev Γ a ρ w).bind fun d ρ w => R.of (enums d) ρ w
  | .enumK _ _, _, _ => .stuck
  | .items a, ρ, w => (ev Γ a ρ w).bind fun d ρ w => R.of (itemsD d) ρ w
  | .values a, ρ, w => (ev Γ a ρ w).bind fun d ρ w => R.of (valuesD d) ρ w
end
/-! ### statements -/
mutual
inductive PY where
  | asg (x : Str) (i : Nat) (e : PX) | asgO (x : Str) (i : Nat) (e : PX)
  | asgT (xs : List (Str × Nat)) (l : Bool) (e : PX)
  | par2 (x : Str) (i : Nat) (y : Str) (j : Nat) (a b : PX) | par2O (x : Str) (i : Nat) (y : Str) (j : Nat) (a b : PX)
  | setI (x : Str) (i : Nat) (k v : PX) | setF (f : Str) (e : PX)
  | ex (e : PX) | ret (e : PX) | retN
  | ifs (c : PX) (a b : PYs)
  | for_ (tg : Tg) (it : PIt) (b : PYs)
  | raise_ (c : Str) (es : PXs)
  | pass | brk | cont | doc
  | never
inductive PYs where
  | nil | cons (p : PY) (ps : PYs)
end
def forD (tg : Tg) (f : En → DW → RS) : List D → En → DW → RS
  | [], ρ, w => .nx ρ w
  | d :: ds, ρ, w => match asgD tg d ρ with
    | none => .stuck
    | some ρ1 => match f ρ1 w with
      | .nx ρ2 w2 => forD tg f ds ρ2 w2
      | .ct ρ2 w2 => forD tg f ds ρ2 w2
      | .bk ρ2 w2 => .nx ρ2 w2
      | r => r
def asgL (xs : List (Str × Nat)) (ds : List D) (ρ : En) : Option En := if ds.length = xs.length then some ((xs.zip ds).foldl (fun ρ p => ρ.set p.1.2 (.dat p.2)) ρ) else none
def putF' (f : Str) (d : D) : List Str → List D → List Str × List D
  | n :: ns, e :: es => if n = f then (n :: ns, d :: es) else let (a, b) := putF' f d ns es; (n :: a, e :: b)
  | _, _ => ([f], [d])
def RS.ofE (o : Option En) (w : DW) : RS := match o with
  | some ρ => .nx ρ w
  | none => .stuck
def ownD (i : Nat) (d : D) (ρ : En) : Option En := if i < ρ.length then some (ρ.set i (.own d)) else none
def asgTD (l : Bool) (xs : List (Str × Nat)) (d : D) (ρ : En) : Option En := match l, d with
  | false, .tup ds => asgL xs ds ρ
  | true, .lst ds => asgL xs ds ρ
  | _, _ => none
def setID (Γ : Gm) (i : Nat) (x y : D) (ρ : En) : Option En := match ρ[i]? with
  | some (.own d) => (Γ.set d x y).map fun d' => ρ.set i (.own d')
  | _ => none
def setT (Γ : Gm) (i : Nat) (fk : En → DW → R D) (y : D) (ρ : En) (w : DW) : RS := if (ownK i ρ).isSome then (fk ρ w).bindS fun x ρ w => RS.ofE (setID Γ i x y ρ) w else .stuck
def setFD (Γ : Gm) (f : Str) (y : D) (ρ : En) : Option En := match ρ[(0 : Nat)]? with
  | some (Sl.own (D.ins c ns vs)) => if Γ.fo c f = true ∧ ns.length < 900 then some (ρ.set 0 (.own (.ins c (putF' f y ns vs).1 (putF' f y ns vs).2))) else none
  | _ => none
mutual
def exS (Γ : Gm) : PY → En → DW → RS
  | .asg _ i e, ρ, w => (ev Γ e ρ w).bindS fun d ρ w => .nx (ρ.set i (.dat d)) w
  | .asgO _ i e, ρ, w => (ev Γ e ρ w).bindS fun d ρ w => RS.ofE (ownD i d ρ) w
  | .asgT xs l e, ρ, w => (ev Γ e ρ w).bindS fun d ρ w => RS.ofE (asgTD l xs d ρ) w
  | .par2 _ i _ j a b, ρ, w => (ev Γ a ρ w).bindS fun x ρ w => (ev Γ b ρ w).bindS fun y ρ w => .nx ((ρ.set i (.dat x)).set j (.dat y)) w
  | .par2O _ i _ j a b, ρ, w => (ev Γ a ρ w).bindS fun x ρ w => (ev Γ b ρ w).bindS fun y ρ w => RS.ofE ((ownD i x ρ).map fun ρ => ρ.set j (.dat y)) w
  | .setI _ i k v, ρ, w => (ev Γ v ρ w).bindS fun y ρ w => setT Γ i (ev Γ k) y ρ w
  | .setF f e, ρ, w => (ev Γ e ρ w).bindS fun y ρ w => RS.ofE (setFD Γ f y ρ) w
  | .ex e, ρ, w => (ev Γ e ρ w).bindS fun _ ρ w => .nx ρ w
  | .ret e, ρ, w => (ev Γ e ρ w).bindS fun d _ w => .rt d w
  | .retN, _, w => .rt .non w
  | .ifs c a b, ρ, w => (evT Γ c ρ w).bindS fun t ρ w => if t then exSs Γ a ρ w else exSs Γ b ρ w
  | .for_ tg it b, ρ, w => (evI Γ it ρ w).bindS fun ds ρ w => forD tg (exSs Γ b) ds ρ w
  | .raise_ c es, ρ, w => (evs Γ es ρ w).bindS fun ds ρ w => .stuck
  | .pass, ρ, w => .nx ρ w
  | .brk, ρ, w => .bk ρ w
  | .cont, ρ, w => .ct ρ w
  | .doc, ρ, w => .nx ρ w
  | .never, _, _ => .stuck
def exSs (Γ : Gm) : PYs → En → DW → RS
  | .nil, ρ, w => .nx ρ w
  | .cons p ps, ρ, w => (exS Γ p ρ w).seq (exSs Γ ps)
end
/-- a def's meaning by its body -/
def runB (Γ : Gm) (body : PYs) (np n : Nat) : Fn := fun ds w => if ds.length = np then (match exSs Γ body (ds.map .dat ++ List.replicate (n - ds.length) .emp) w with
  | .nx _ w => .ok .non w
  | .rt d w => .ok d w
  | .exc x _ w => .exc x w
  | _ => .stuck) else .stuck
end DL
set_option maxRecDepth 100000
set_option maxHeartbeats 2000000
set_option linter.all false
namespace DL
open PySem PySem.Spec PyProof.Rows L2
section
variable {Γ : Gm} {ρ : En} {w : DW}
theorem ev_var {x : Str} {i : Nat} : ev Γ (.var x i) ρ w = varD i ρ w := by rw [ev]
theorem ev_con {d : D} : ev Γ (.con d) ρ w = .ok d ρ w := by rw [ev]
theorem ev_glob {x : Str} : ev Γ (.glob x) ρ w = R.of (Γ.con x) ρ w := by rw [ev]
theorem ev_bin {o : Operator} {a b : PX} : ev Γ (.bin o a b) = two a (ev Γ a) (brw b (ev Γ b)) (fun x y ρ w => (Γ.bin o x y w).at ρ) := by funext ρ w; rw [ev]
theorem ev_cmp {o : CmpOp} {a b : PX} : ev Γ (.cmp o a b) = two a (ev Γ a) (brw b (ev Γ b)) (fun x y ρ w => (Γ.cmp o x y w).at ρ) := by funext ρ w; rw [ev]
theorem ev_chain {o p : CmpOp} {a b c : PX} : ev Γ (.chain o p a b c) ρ w = (ev Γ a ρ w).bind fun x ρ w => (ev Γ b ρ w).bind fun y ρ w => ((Γ.cmp o x y w).at ρ).bind fun r ρ w => chainD r (fun ρ w => (ev Γ c ρ w).bind fun z ρ w => (Γ.cmp p y z w).at ρ) ρ w := by rw [ev]
theorem ev_neg {a : PX} : ev Γ (.neg a) ρ w = (ev Γ a ρ w).bind fun x ρ w => R.of (Γ.neg x) ρ w := by rw [ev]
theorem ev_nt {a : PX} : ev Γ (.nt a) = fun ρ w => (brw a (ev Γ a) ρ w).bind fun x ρ w => R.of ((Γ.tru x).map fun b => .bl (!b)) ρ w := by funext ρ w; rw [ev]
theorem ev_and {a b : PX} : ev Γ (.and a b) ρ w = (ev Γ a ρ w).bind fun x ρ w => andD (Γ.tru x) x (ev Γ b) ρ w := by rw [ev]
theorem ev_or {a b : PX} : ev Γ (.or a b) ρ w = (ev Γ a ρ w).bind fun x ρ w => orD (Γ.tru x) x (ev Γ b) ρ w := by rw [ev]
theorem ev_ife {c a b : PX} : ev Γ (.ife c a b) ρ w = (evT Γ c ρ w).bind fun t ρ w => if t then ev Γ a ρ w else ev Γ b ρ w := by rw [ev]
theorem ev_tup {es : PXs} : ev Γ (.tup es) ρ w = (evs Γ es ρ w).bind fun ds ρ w => if ds.length ≤ 100000 then .ok (.tup ds) ρ w else .stuck := by rw [ev]
theorem ev_lst {es : PXs} : ev Γ (.lst es) ρ w = (evs Γ es ρ w).bind fun ds ρ w => if ds.length ≤ 100000 then .ok (.lst ds) ρ w else .stuck := by rw [ev]
theorem ev_dnew {t : Bool} : ev Γ (.dnew t) ρ w = .ok (if t then .dT [] [] else .dK [] []) ρ w := by rw [ev]
theorem ev_sub {a b : PX} : ev Γ (.sub a b) = two a (ev Γ a) (brw b (ev Γ b)) (fun x y ρ w => (Γ.get x y w).at ρ) := by funext ρ w; rw [ev]
theorem ev_slc {a : PX} {lo hi : PXs} : ev Γ (.slc a lo hi) = fun ρ w => (ev Γ a ρ w).bind fun x ρ w => (evO Γ lo ρ w).bind fun l ρ w => (evO Γ hi ρ w).bind fun h ρ w => R.of (Γ.slc x l h) ρ w := by funext ρ w; rw [ev]
theorem evO_nil : evO Γ .nil ρ w = .ok none ρ w := by rw [evO]
theorem evO_one {p : PX} : evO Γ (.cons p .nil) ρ w = (ev Γ p ρ w).bind fun d ρ w => R.of (intD d) ρ w := by rw [evO]
theorem evJ_nil {acc : Str} : evJ Γ .nil acc ρ w = .ok (.str acc) ρ w := by rw [evJ]
theorem evJ_cons {p : PX} {ps : PXs} {acc : Str} : evJ Γ (.cons p ps) acc ρ w = (ev Γ p ρ w).bind fun d ρ w => jnD acc d (evJ Γ ps) ρ w := by rw [evJ]
theorem ev_rev {a : PX} : ev Γ (.rev a) = fun ρ w => (brw a (ev Γ a) ρ w).bind fun x ρ w => R.of (Γ.rev x) ρ w := by funext ρ w; rw [ev]
theorem ev_call {f : Str} {es : PXs} : ev Γ (.call f es) ρ w = callD (Γ.fn f) (evs Γ es) ρ w := by rw [ev]
theorem ev_callB {f : Str} {es : PXs} : ev Γ (.callB f es) ρ w = callBD (Γ.fn f) (evsB Γ es) ρ w := by rw [ev]
theorem ev_sset {a : PX} : ev Γ (.sset a) = ssetD Γ.sset (brw a (ev Γ a)) := by funext ρ w; rw [ev]
theorem evsB_nil : evsB Γ .nil ρ w = .ok [] ρ w := by rw [evsB]
theorem evsB_cons {p : PX} {ps : PXs} : evsB Γ (.cons p ps) ρ w = (argB p (ev Γ p) ρ w).bind fun d ρ w => (evsB Γ ps ρ w).bind fun ds ρ w => .ok (d :: ds) ρ w := by rw [evsB]
theorem ev_callK {f : Str} {es vs : PXs} {ks : List Str} : ev Γ (.callK f es ks vs) ρ w = callKD (Γ.fn f) (evs Γ es) (evs Γ vs) (fun ds us => Γ.ki f ds ks us) ρ w := by rw [ev]
theorem ev_cmeth {c m : Str} {es : PXs} : ev Γ (.cmeth c m es) ρ w = callD (Γ.cm c m) (evs Γ es) ρ w := by rw [ev]
theorem ev_cmethK {c m : Str} {vs : PXs} {ks : List Str} : ev Γ (.cmethK c m ks vs) ρ w = callD (Γ.cm c m) (evs Γ vs) ρ w := by rw [ev]
theorem ev_b1 {f : Str} {a : PX} : ev Γ (.b1 f a) = b1D (Γ.bF f) (Γ.b1 f) (brw a (ev Γ a)) := by funext ρ w; rw [ev]
theorem ev_bn {f : Str} {es : PXs} : ev Γ (.bn f es) = bnD (Γ.bn f) (evs Γ es) := by funext ρ w; rw [ev]
theorem ev_mth {o : PX} {m : Str} {es : PXs} : ev Γ (.mth o m es) = mthD (Γ.m m) o (ev Γ o) (evs Γ es) := by funext ρ w; rw [ev]
theorem ev_imth {o : PX} {m : Str} {es : PXs} : ev Γ (.imth o m es) = imthD (Γ.im m) (ev Γ o) (evs Γ es) := by funext ρ w; rw [ev]
theorem ev_prop {o : PX} {f : Str} : ev Γ (.prop o f) = op1D (Γ.prop f) (ev Γ o) := by funext ρ w; rw [ev]
theorem ev_mut {x : Str} {i : Nat} {m : Str} {es : PXs} : ev Γ (.mut x i m es) = mutGD (Γ.mu m) i (evs Γ es) := by funext ρ w; rw [ev]
theorem ev_fld {o : PX} {f : Str} : ev Γ (.fld o f) = fun ρ w => (brw o (ev Γ o) ρ w).bind fun x ρ w => R.of (fldD Γ.fo f x) ρ w := by funext ρ w; rw [ev]
theorem ev_isi {a : PX} {t : Str} : ev Γ (.isi a t) = isiD (Γ.isi t) (brw a (ev Γ a)) := by funext ρ w; rw [ev]
theorem ev_lc {elt : PX} {tg : Tg} {it : PIt} {ifs : PXs} {own : List (Str × Nat)} : ev Γ (.lc elt tg it ifs own) ρ w = (evI Γ it ρ w).bind fun ds ρ w => (lcD tg (own.map (·.2)) (evTs Γ ifs) (ev Γ elt) ds [] ρ w).bind fun xs ρ w => .ok (.lst xs) ρ w := by rw [ev]
theorem ev_own2 {g : Ow2} {a b : PX} : ev Γ (.own2 g a b) ρ w = (ev Γ a ρ w).bind fun x ρ w => (ev Γ b ρ w).bind fun y ρ w => (Γ.own2 g x y w).at ρ := by rw [ev]
theorem ev_dcT {k v : PX} {tg : Tg} {it : PIt} {own : List (Str × Nat)} : ev Γ (.dcT k v tg it own) ρ w = (evI Γ it ρ w).bind fun ds ρ w => dcD tg (own.map (·.2)) Γ.dcp (ev Γ k) (ev Γ v) ds (.dT [] []) ρ w := by rw [ev]
theorem ev_joined {ps : PXs} : ev Γ (.joined ps) ρ w = evJ Γ ps Str.empty ρ w := by rw [ev]
theorem ev_fmt {a : PX} : ev Γ (.fmt a) ρ w = (ev Γ a ρ w).bind fun x ρ w => R.of (Γ.fmt x) ρ w := by rw [ev]
theorem evs_nil : evs Γ .nil ρ w = .ok [] ρ w := by rw [evs]
theorem evs_cons {p : PX} {ps : PXs} : evs Γ (.cons p ps) ρ w = (ev Γ p ρ w).bind fun d ρ w => (evs Γ ps ρ w).bind fun ds ρ w => .ok (d :: ds) ρ w := by rw [evs]
theorem evT_and {a b : PX} : evT Γ (.and a b) ρ w = (evT Γ a ρ w).bind fun x ρ w => if x then evT Γ b ρ w else .ok false ρ w := by rw [evT]
theorem evT_or {a b : PX} : evT Γ (.or a b) ρ w = (evT Γ a ρ w).bind fun x ρ w => if x then .ok true ρ w else evT Γ b ρ w := by rw [evT]
theorem evT_nt {a : PX} : evT Γ (.nt a) ρ w = (evT Γ a ρ w).bind fun x ρ w => .ok (!x) ρ w := by rw [evT]
def simpT : PX → Bool | .and .. => false | .or .. => false | .nt .. => false | _ => true
theorem evT_val {p : PX} (h : simpT p = true) : evT Γ p = fun ρ w => (brw p (ev Γ p) ρ w).bind fun d ρ w => R.of (Γ.tru d) ρ w := by
  funext ρ w
  cases p <;> first | (exact absurd h Bool.false_ne_true) | (rw [evT] <;> (intros; contradiction))
theorem evTs_nil : evTs Γ .nil ρ w = .ok true ρ w := by rw [evTs]
theorem evTs_one {p : PX} : evTs Γ (.cons p .nil) ρ w = evT Γ p ρ w := by rw [evTs]
theorem evI_val {a : PX} : evI Γ (.val a) ρ w = (ev Γ a ρ w).bind fun d ρ w => R.of (Γ.it d) ρ w := by rw [evI]
theorem evI_range1 {a : PX} : evI Γ (.range1 a) ρ w = (ev Γ a ρ w).bind fun d ρ w => R.of (rng1 d) ρ w := by rw [evI]
theorem evI_range2 {a b : PX} : evI Γ (.range2 a b) ρ w = (ev Γ a ρ w).bind fun d ρ w => (ev Γ b ρ w).bind fun e ρ w => R.of (rng2 d e) ρ w := by rw [evI]
theorem evI_zip2 {a b : PX} : evI Γ (.zip2 a b) ρ w = (ev Γ a ρ w).bind fun d ρ w => (ev Γ b ρ w).bind fun e ρ w => R.of (zips d e) ρ w := by rw [evI]
theorem evI_zip3 {a b c : PX} : evI Γ (.zip3 a b c) ρ w = .stuck := by rw [evI]
theorem evI_enum {a : PX} : evI Γ (.enum a) ρ w = (ev Γ a ρ w).bind fun d ρ w => R.of (enums d) ρ w := by rw [evI]
theorem evI_enumK {a b : PX} : evI Γ (.enumK a b) ρ w = .stuck := by rw [evI]
theorem evI_items {a : PX} : evI Γ (.items a) ρ w = (ev Γ a ρ w).bind fun d ρ w => R.of (itemsD d) ρ w := by rw [evI]
theorem evI_values {a : PX} : evI Γ (.values a) ρ w = (ev Γ a ρ w).bind fun d ρ w => R.of (valuesD d) ρ w := by rw [evI]
theorem evTs_two {p q : PX} {ps : PXs} : evTs Γ (.cons p (.cons q ps)) ρ w = .stuck := by rw [evTs] <;> first | (intro p h; cases h) | (intro h; cases h)
theorem exS_asgT {xs : List (Str × Nat)} {l : Bool} {e : PX} : exS Γ (.asgT xs l e) ρ w = (ev Γ e ρ w).bindS fun d ρ w => RS.ofE (asgTD l xs d ρ) w := by rw [exS]
theorem exS_par2 {x y : Str} {i j : Nat} {a b : PX} : exS Γ (.par2 x i y j a b) ρ w = (ev Γ a ρ w).bindS fun x ρ w => (ev Γ b ρ w).bindS fun y ρ w => .nx ((ρ.set i (.dat x)).set j (.dat y)) w := by rw [exS]
theorem exS_par2O {x y : Str} {i j : Nat} {a b : PX} : exS Γ (.par2O x i y j a b) ρ w = (ev Γ a ρ w).bindS fun x ρ w => (ev Γ b ρ w).bindS fun y ρ w => RS.ofE ((ownD i x ρ).map fun ρ => ρ.set j (.dat y)) w := by rw [exS]
theorem exS_setI {x : Str} {i : Nat} {k v : PX} : exS Γ (.setI x i k v) ρ w = (ev Γ v ρ w).bindS fun y ρ w => setT Γ i (ev Γ k) y ρ w := by rw [exS]
theorem exS_setF {f : Str} {e : PX} : exS Γ (.setF f e) ρ w = (ev Γ e ρ w).bindS fun y ρ w => RS.ofE (setFD Γ f y ρ) w := by rw [exS]
theorem exS_raise {c : Str} {es : PXs} : exS Γ (.raise_ c es) ρ w = (evs Γ es ρ w).bindS fun ds ρ w => .stuck := by rw [exS]
theorem exS_asg {x : Str} {i : Nat} {e : PX} : exS Γ (.asg x i e) ρ w = (ev Γ e ρ w).bindS fun d ρ w => .nx (ρ.set i (.dat d)) w := by rw [exS]
theorem exS_asgO {x : Str} {i : Nat} {e : PX} : exS Γ (.asgO x i e) ρ w = (ev Γ e ρ w).bindS fun d ρ w => RS.ofE (ownD i d ρ) w := by rw [exS]
theorem exS_ex {e : PX} : exS Γ (.ex e) ρ w = (ev Γ e ρ w).bindS fun _ ρ w => .nx ρ w := by rw [exS]
theorem exS_ret {e : PX} : exS Γ (.ret e) ρ w = (ev Γ e ρ w).bindS fun d _ w => .rt d w := by rw [exS]
theorem exS_retN : exS Γ .retN ρ w = .rt .non w := by rw [exS]
theorem exS_ifs {c : PX} {a b : PYs} : exS Γ (.ifs c a b) ρ w = (evT Γ c ρ w).bindS fun t ρ w => if t then exSs Γ a ρ w else exSs Γ b ρ w := by rw [exS]
theorem exS_for {tg : Tg} {it : PIt} {b : PYs} : exS Γ (.for_ tg it b) ρ w = (evI Γ it ρ w).bindS fun ds ρ w => forD tg (exSs Γ b) ds ρ w := by rw [exS]
theorem exS_pass : exS Γ .pass ρ w = .nx ρ w := by rw [exS]
theorem exS_brk : exS Γ .brk ρ w = .bk ρ w := by rw [exS]
theorem exS_cont : exS Γ .cont ρ w = .ct ρ w := by rw [exS]
theorem exS_doc : exS Γ .doc ρ w = .nx ρ w := by rw [exS]
theorem exS_never : exS Γ .never ρ w = .stuck := by rw [exS]
theorem exSs_nil : exSs Γ .nil ρ w = .nx ρ w := by rw [exSs]
theorem exSs_cons {p : PY} {ps : PYs} : exSs Γ (.cons p ps) ρ w = (exS Γ p ρ w).seq (exSs Γ ps) := by rw [exSs]
end
end DL
set_option maxRecDepth 100000
set_option maxHeartbeats 2000000
set_option linter.all false
namespace DL
open PySem PySem.Spec PyProof.Rows L2
/-! ### the context -/
structure Cxy (G : GC) (P : Program) (wd : World) (base : Heap) (k : Nat) (X : Cx) (W : WX) : Prop where
  K : X.K = G.K
  mg : X.mg = G.mg
  prog : X.prog = P
  w : X.w = wd
  base : X.base = base
  gd : X.A.guards = some []
  room : Room k X.A
  calm : X.calm = true
  tk : Takes X W
  po : PassesOwn (model X.prog X.w) X.A X.env X.xe
structure Cxx (G : GC) (P : Program) (wd : World) (base : Heap) (k : Nat) (N : List Str) (sc : Scope) (fa : Bool) (X : Cx) (W : WX) : Prop extends Cxy G P wd base k X W where
  xN : X.N = N
  nd : N.Nodup
  sc : X.env.scope = sc
  kf : X.env.scope.kind = ScopeKind.function
  fnl : fa = true → ∀ x, X.fn x = true
/-! ### weakenings -/
section
variable {X : Cx}
theorem PE.weak {e : Expr} {t t' : TE} (h : PE X e t) (hw : ∀ σ H Q, t' σ H Q → t σ H Q) : PE X e t' := ⟨fun pins s σ H Q I q => h.run pins s σ H Q I (hw σ H Q q)⟩
theorem PT.weak {e : Expr} {t t' : TT} (h : PT X e t) (hw : ∀ σ H Q, t' σ H Q → t σ H Q) : PT X e t' := ⟨fun pins s σ H Q I q => h.run pins s σ H Q I (hw σ H Q q)⟩
theorem PA.weak {es : List Expr} {t t' : TA} (h : PA X es t) (hw : ∀ σ H Q, t' σ H Q → t σ H Q) : PA X es t' := ⟨fun pos pins s σ H Q I q => h.run pos pins s σ H Q I (hw σ H Q q)⟩
theorem PS.weak {st : Stmt} {t t' : TS} (h : PS X st t) (hw : ∀ D σ H, t' D σ H → t D σ H) : PS X st t' := ⟨fun pins s σ H D I q => h.run pins s σ H D I (hw D σ H q)⟩
theorem PSs.weak {st : List Stmt} {t t' : TS} (h : PSs X st t) (hw : ∀ D σ H, t' D σ H → t D σ H) : PSs X st t' := ⟨fun pins s σ H D I q => h.run pins s σ H D I (hw D σ H q)⟩
end
/-! ### looks at the text -/
def notStar : Expr → Bool | .Starred .. => false | _ => true
def notSlice : Expr → Bool | .Slice .. => false | _ => true
def notSet : Expr → Bool | .Set .. => false | _ => true
def notComp : Expr → Bool | .ListComp .. => false | .SetComp .. => false | .DictComp .. => false | _ => true
def plainT : Expr → Bool | .UnaryOp .. => false | .BoolOp .. => false | .IfExp .. => false | .Compare .. => false | _ => true
def notTup : Expr → Bool | .Tuple .. => false | _ => true
def notCall : Expr → Bool | .Call _ [] [] _ => false | _ => true
theorem attr_plain {o : Expr} {m : Str} {env : Env} (hc : notCall o = true) (w : Sem Value) : attributeBase o m env w = w := by
  cases o <;> first | rfl | skip
  rename_i f es ks p
  cases es with
  | nil =>
    cases ks with
    | nil => exact absurd hc Bool.false_ne_true
    | cons k ks => cases f <;> rfl
  | cons e es => cases f <;> rfl
def plainN (x : Str) : Bool := !(x == ("__debug__" : Str)) && !(x == ("__classdict__" : Str)) && !(x == ("__name__" : Str))
def visB (sc : Scope) (x : Str) : Bool := match sc.names.lookup x with
  | some .local => true | some .cell => true | some .free => true | _ => false
def locB (fa : Bool) (sc : Scope) (x : Str) : Bool := match sc.names.lookup x with
  | some .local => true | some .cell => fa | _ => false
def glB (sc : Scope) (x : Str) : Bool := match sc.names.lookup x with
  | some .globalImplicit => true | _ => false
theorem starEach_of {e : Expr} (h : notStar e = true) (es : List Expr) (env : Env) : starEach (e :: es) env = (false, eval e env) :: starEach es env := by
  cases e <;> first | rfl | (exact absurd h Bool.false_ne_true)
theorem assignEach_of {e : Expr} (h : notStar e = true) (es : List Expr) (env : Env) : assignEach (e :: es) env = (false, assign e env) :: assignEach es env := by
  cases e <;> first | rfl | (exact absurd h Bool.false_ne_true)
theorem plainIx_of {e : Expr} (h : notSlice e = true) : PlainIx e := by
  cases e <;> first | exact fun _ _ => rfl | (exact absurd h Bool.false_ne_true)
theorem isTrue_of {e : Expr} (h : plainT e = true) (env : Env) : ∀ whole, isTrue e env whole = (do let v ← whole; standAt e.pos; holding [v] (truthy v)) := by
  cases e <;> first | exact fun _ => rfl | (exact absurd h Bool.false_ne_true)
theorem fold_of {e : Expr} (h : notSet e = true) (env : Env) : ∀ x, foldedSetIterable e env x = pure x := by
  cases e <;> first | exact fun _ => rfl | (exact absurd h Bool.false_ne_true)
theorem swaps_of {e : Expr} (h : notComp e = true) (t : Option Expr) (l : Nat) (env : Env) : swapsWith e t l env = pure false := by
  cases e <;> first | rfl | (exact absurd h Bool.false_ne_true)
theorem vis_of {sc : Scope} {x : Str} (h : visB sc x = true) : Vis sc x := by
  unfold visB at h
  split at h <;> first | (exact .inl (by assumption)) | (exact .inr (.inl (by assumption))) | (exact .inr (.inr (by assumption))) | cases h
theorem loc_of {fa : Bool} {sc : Scope} {x : Str} (h : locB fa sc x = true) : Loc sc x ∧ (fa = true ∨ sc.names.lookup x = some .local) := by
  unfold locB at h
  split at h <;> first | (exact ⟨.inl (by assumption), .inr (by assumption)⟩) | (exact ⟨.inr (by assumption), .inl h⟩) | cases h
theorem plainN_of {x : Str} (h : plainN x = true) : (x == ("__debug__" : Str)) = false ∧ (x == ("__classdict__" : Str)) = false ∧ x ≠ "__name__" := by
  unfold plainN at h
  simp only [Bool.and_eq_true, Bool.not_eq_true'] at h
  exact ⟨h.1.1, h.1.2, fun e => by rw [e] at h; simp at h⟩
theorem args_plain {es : List Expr} (h : es.all notStar = true) (pos : Pos) (env : Env) : (backTo pos (starEach es env)).any (·.1) = false := by
  induction es with
  | nil => rfl
  | cons e es ih =>
    simp only [List.all_cons, Bool.and_eq_true] at h
    rw [starEach_of h.1]
    show (false || (backTo pos (starEach es env)).any (·.1)) = false
    rw [ih h.2]
    rfl
section
variable {G : GC} {P : Program} {wd : World} {base : Heap} {k : Nat} {N : List Str} {sc : Scope} {fa : Bool} {X : Cx} {W : WX} {Γ : Gm}
theorem Cxx.gl (c : Cxx G P wd base k N sc fa X W) {x : Str} (h : glB sc x = true) : Gl X x := by
  unfold glB at h
  show X.env.scope.names.lookup x = _
  rw [c.sc]
  split at h <;> first | assumption | cases h
theorem Cxx.vis (c : Cxx G P wd base k N sc fa X W) {x : Str} (h : visB sc x = true) : Vis X.env.scope x := by
  rw [c.sc]
  exact vis_of h
theorem c_tvar (c : Cxx G P wd base k N sc fa X W) {x : Str} {i : Nat} {pos : Pos} (hi : N[i]? = some x) (hv : visB sc x = true) (hn : plainN x = true) : PE X (.Name x pos) (tVar i) :=
  pe_var (by rw [c.xN]; exact hi) (c.vis hv) (plainN_of hn).1 (plainN_of hn).2.1
theorem c_var (c : Cxx G P wd base k N sc fa X W) {x : Str} {i : Nat} {pos : Pos} (hi : N[i]? = some x) (hv : visB sc x = true) (hn : plainN x = true) : PE X (.Name x pos) (tD G W (ev Γ (.var x i))) := by
  refine PE.weak (c_tvar c hi hv hn) fun σ H Q h => ?_
  obtain ⟨Bd, ρ, w, a, q⟩ := h
  rw [ev_var] at q
  unfold varD at q
  cases e : ρ[i]? with
  | none => rw [e] at q; exact q.elim
  | some s =>
    rw [e] at q
    obtain ⟨o, ho, hs⟩ := a.en.sl.get e
    cases s with
    | emp => exact q.elim
    | dat d =>
      obtain ⟨v, e1, e2⟩ := hs
      subst e1
      exact ⟨v, ho, PostE.here a q e2⟩
    | own d =>
      obtain ⟨b, e1, e2, e3, e4⟩ := a.en.freeze e
      exact ⟨_, e1, q _ H Stp.refl e2 e3 a.dk e4⟩
/-- a slot's data, its own object anywhere -/
theorem slot_b {Bd : Addr → Prop} {ρ : En} {w : DW} {σ : L2.St} {H : Hp} (a : At G Bd ρ w σ H) {i : Nat} {d : D} (h : rd ρ i = some d) : ∃ v, σ[i]? = some (some v) ∧ DtB G (okA Bd (owns ρ σ)) H d v := by
  unfold rd at h
  cases e : ρ[i]? with
  | none => rw [e] at h; cases h
  | some s =>
    rw [e] at h
    obtain ⟨o, ho, hs⟩ := a.en.sl.get e
    cases s with
    | emp => cases h
    | dat d' =>
      cases h
      obtain ⟨v, e1, e2⟩ := hs
      subst e1
      exact ⟨v, ho, e2.toB⟩
    | own d' =>
      cases h
      obtain ⟨b, e1, e2⟩ := hs
      subst e1
      exact ⟨_, ho, e2.toB⟩
/-- an operand: a name is looked at later -/
def tA (G : GC) (W : WX) (a : PX) (fa : En → DW → R D) : TE := match a.ix with
  | some i => tVar i
  | none => tD G W fa
def After2 (G : GC) (W : WX) (k : D → D → En → DW → R D) (σ : L2.St) (x y : V) (H : Hp) (Q : VK) : Prop :=
  ∃ Bd ρ w dx dy, At G Bd ρ w σ H ∧ DtB G (okA Bd (owns ρ σ)) H dx x ∧ DtB G (okA Bd (owns ρ σ)) H dy y ∧ PostE G W (Dt G) Bd ρ σ H (k dx dy ρ w) Q
def After1 (G : GC) (W : WX) (k : D → En → DW → R D) (σ : L2.St) (x : V) (H : Hp) (Q : VK) : Prop :=
  ∃ Bd ρ w dx, At G Bd ρ w σ H ∧ DtB G (okA Bd (owns ρ σ)) H dx x ∧ PostE G W (Dt G) Bd ρ σ H (k dx ρ w) Q
theorem brw_split {a : PX} {f : En → DW → R D} {k : D → En → DW → R D} {σ : L2.St} {H : Hp} {Q : VK} (h : tD G W (fun ρ w => (brw a f ρ w).bind k) σ H Q) : tDB G W (brw a f) σ H fun x H1 => After1 G W k σ x H1 Q := by
  obtain ⟨Bd, ρ, w, a, q⟩ := h
  exact ⟨Bd, ρ, w, a, PostE.bind a q fun d ρ1 w1 v H1 m r q1 => ⟨Bd, ρ1, w1, d, m.at_, r, q1⟩⟩
/-- borrowed -/
theorem c_brw {p : PX} {e : Expr} (h : PE X e (tD G W (ev Γ p))) (hv : ∀ i, p.ix = some i → PE X e (tVar i)) : PE X e (tDB G W (brw p (ev Γ p))) := by
  cases e1 : p.ix with
  | none =>
    refine PE.weak h fun σ H Q q => ?_
    obtain ⟨Bd, ρ, w, a, q⟩ := q
    unfold brw at q
    rw [e1] at q
    exact ⟨Bd, ρ, w, a, q.imp fun _ _ _ _ z => z.toB⟩
  | some i =>
    refine PE.weak (hv i e1) fun σ H Q q => ?_
    obtain ⟨Bd, ρ, w, a, q⟩ := q
    unfold brw at q
    rw [e1] at q
    cases e2 : rd ρ i with
    | none => simp only [e2, R.of] at q; exact q.elim
    | some d =>
      simp only [e2, R.of] at q
      obtain ⟨v, h1, h2⟩ := slot_b a e2
      exact ⟨v, h1, PostE.here a q h2⟩
theorem c_opd {p : PX} {e : Expr} (h : PE X e (tD G W (ev Γ p))) (hv : ∀ i, p.ix = some i → PE X e (tVar i)) : PE X e (tA G W p (ev Γ p)) := by
  unfold tA
  cases e1 : p.ix with
  | none => exact h
  | some i => exact hv i e1
theorem two_split {a : PX} {fa fb : En → DW → R D} {k : D → D → En → DW → R D} {σ : L2.St} {H : Hp} {Q : VK} (h : tD G W (two a fa fb k) σ H Q) :
    tA G W a fa σ H fun x H1 => tDB G W fb σ H1 fun y H2 => After2 G W k σ x y H2 Q := by
  obtain ⟨Bd, ρ, w, at_, q⟩ := h
  unfold tA
  unfold two at q
  cases e1 : a.ix with
  | none =>
    rw [e1] at q
    refine ⟨Bd, ρ, w, at_, PostE.bind at_ q fun d ρ1 w1 v H1 m r q1 => ?_⟩
    refine ⟨Bd, ρ1, w1, m.at_, PostE.bind m.at_ q1 fun d2 ρ2 w2 v2 H2 m2 r2 q2 => ?_⟩
    exact ⟨Bd, ρ2, w2, d, d2, m2.at_, (Dt.carry m.at_.bd m2.stp (fun a ha => .inl (m2.sub a ha)) r).toB, r2, q2⟩
  | some i =>
    rw [e1] at q
    cases e0 : rd ρ i with
    | none => simp only [e0] at q; exact q.elim
    | some d0 =>
      simp only [e0, Option.isSome_some, if_true] at q
      obtain ⟨v, hv, _⟩ := slot_b at_ e0
      refine ⟨v, hv, Bd, ρ, w, at_, PostE.bind at_ q fun d ρ1 w1 v1 H1 m r q1 => ?_⟩
      cases e2 : rd ρ1 i with
      | none => simp only [e2] at q1; exact q1.elim
      | some d2 =>
        simp only [e2] at q1
        obtain ⟨v', h1, h2⟩ := slot_b m.at_ e2
        rw [hv] at h1
        cases h1
        exact ⟨Bd, ρ1, w1, d2, d, m.at_, h2, r, q1⟩
end
end DL
set_option maxRecDepth 100000
set_option maxHeartbeats 4000000
set_option linter.all false
namespace DL
open PySem PySem.Spec PyProof.Rows L2
section
variable {X : Cx}
/-! ### a list or a tuple beside an empty one -/
def EmpR (K : PySem.W.Frag) (f : Bool → Bool) : R2 := fun x y H Q => ∃ a b xs, x = .ref a ∧ y = .ref b ∧ ((SqL K H a xs ∧ SqL K H b []) ∨ (SqT K H a xs ∧ SqT K H b [])) ∧ Q (.bl (f xs.isEmpty)) H
theorem vals_nil {its : List Value} (h : Vals [] its) : its = [] := by
  cases h
  rfl
theorem op_eqE (hu : X.A.units + 1 < cLine) : OpR X (compareOp .Eq) (EmpR X.K id) := by
  rintro pins s σ H x y v u Q I rx ry ⟨a, b, xs, rfl, rfl, h, q⟩
  cases (show v = Value.ref a from rx)
  cases (show u = Value.ref b from ry)
  have fin : ∀ k, k = xs.isEmpty → EP X pins σ Q (.bool k) s := fun k e => ⟨.bl k, H, I, rfl, by rw [e]; exact q⟩
  have hu2 : X.A.units < cLine := by omega
  rcases h with ⟨h1, h2⟩ | ⟨h1, h2⟩
  · obtain ⟨is, r1, p1, _⟩ := I.list h1
    obtain ⟨js, r2, p2, _⟩ := I.list h2
    cases vals_nil r2
    cases xs with
    | nil =>
      cases vals_nil r1
      exact SeqAt.RcAt.lists (e := fun _ => true) p1.isList p2.isList rfl hu2 (fun j h1 h2 => absurd h1 (by simp)) X.prog X.w _ _ (fin _ rfl)
    | cons z zs =>
      have : (is.toArray.size != ([] : List Value).toArray.size) = true := by
        have := r1.length
        rw [List.length_cons] at this
        simp only [List.size_toArray, List.length_nil, ← this]
        simp
      exact SeqAt.RcAt.lists_lengths p1.isList p2.isList this hu2 X.prog X.w _ _ (fin _ rfl)
  · obtain ⟨is, r1, p1, _⟩ := I.tuple h1
    obtain ⟨js, r2, p2, _⟩ := I.tuple h2
    cases vals_nil r2
    refine SeqAt.RcAt.tuples (e := fun _ => true) p1 p2 hu2 (fun j h1 h2 => absurd h2 (by simp)) X.prog X.w _ _ (fin _ ?_)
    have l := r1.length
    cases xs with
    | nil =>
      cases vals_nil r1
      rfl
    | cons z zs =>
      rw [List.length_cons] at l
      have e : (is.toArray.size == ([] : List Value).toArray.size) = false := by
        simp only [List.size_toArray, ← l]
        simp
      rw [e, Bool.and_false]
      rfl
theorem op_neE (hu : X.A.units + 1 < cLine) : OpR X (compareOp .NotEq) (EmpR X.K not) := by
  rintro pins s σ H x y v u Q I rx ry ⟨a, b, xs, rfl, rfl, h, q⟩
  cases (show v = Value.ref a from rx)
  cases (show u = Value.ref b from ry)
  have fin : ∀ k, k = !xs.isEmpty → EP X pins σ Q (.bool k) s := fun k e => ⟨.bl k, H, I, rfl, by rw [e]; exact q⟩
  have hu2 : X.A.units < cLine := by omega
  rcases h with ⟨h1, h2⟩ | ⟨h1, h2⟩
  · obtain ⟨is, r1, p1, _⟩ := I.list h1
    obtain ⟨js, r2, p2, _⟩ := I.list h2
    cases vals_nil r2
    cases xs with
    | nil =>
      cases vals_nil r1
      exact SeqAt.RcNeAt.lists (e := fun _ => true) p1.isList p2.isList rfl hu2 (fun j h1 h2 => absurd h1 (by simp)) X.prog X.w _ _ (fin _ rfl)
    | cons z zs =>
      have : (is.toArray.size != ([] : List Value).toArray.size) = true := by
        have := r1.length
        rw [List.length_cons] at this
        simp only [List.size_toArray, List.length_nil, ← this]
        simp
      exact SeqAt.RcNeAt.lists_lengths p1.isList p2.isList this hu2 X.prog X.w _ _ (fin _ rfl)
  · obtain ⟨is, r1, p1, _⟩ := I.tuple h1
    obtain ⟨js, r2, p2, _⟩ := I.tuple h2
    cases vals_nil r2
    refine SeqAt.RcNeAt.tuples (e := fun _ => true) p1 p2 hu2 (fun j h1 h2 => absurd h2 (by simp)) X.prog X.w _ _ (fin _ ?_)
    have l := r1.length
    cases xs with
    | nil =>
      cases vals_nil r1
      rfl
    | cons z zs =>
      rw [List.length_cons] at l
      have e : (is.toArray.size == ([] : List Value).toArray.size) = false := by
        simp only [List.size_toArray, ← l]
        simp
      rw [e, Bool.and_false]
      rfl
/-! ### bools as ints -/
theorem op_add_bi : OpR X (binaryOp .Add) (fun x y H Q => ∃ (p : Bool) (j : Int), x = .bl p ∧ y = .int j ∧ Q (.int ((if p = true then 1 else 0) + j)) H) := by
  rintro pins s σ H x y v u Q I rx ry ⟨p, j, rfl, rfl, q⟩
  cases (show v = Value.bool p from rx)
  obtain ⟨t, rfl⟩ := (show ∃ t, u = Value.int j t from ry)
  exact PySem.IntBool.add_bool_int ⟨.int _, H, I.tok _, ⟨_, rfl⟩, q⟩
theorem op_sub_bi : OpR X (binaryOp .Sub) (fun x y H Q => ∃ (p : Bool) (j : Int), x = .bl p ∧ y = .int j ∧ Q (.int ((if p = true then 1 else 0) - j)) H) := by
  rintro pins s σ H x y v u Q I rx ry ⟨p, j, rfl, rfl, q⟩
  cases (show v = Value.bool p from rx)
  obtain ⟨t, rfl⟩ := (show ∃ t, u = Value.int j t from ry)
  exact PySem.IntBool.sub_bool_int ⟨.int _, H, I.tok _, ⟨_, rfl⟩, q⟩
theorem op_sub_ib : OpR X (binaryOp .Sub) (fun x y H Q => ∃ (i : Int) (p : Bool), x = .int i ∧ y = .bl p ∧ Q (.int (i - (if p = true then 1 else 0))) H) := by
  rintro pins s σ H x y v u Q I rx ry ⟨i, p, rfl, rfl, q⟩
  obtain ⟨t, rfl⟩ := (show ∃ t, v = Value.int i t from rx)
  cases (show u = Value.bool p from ry)
  exact PySem.IntBool.sub_int_bool ⟨.int _, H, I.tok _, ⟨_, rfl⟩, q⟩
end
end DL
set_option maxRecDepth 100000
set_option maxHeartbeats 4000000
set_option linter.all false
namespace DL
open PySem PySem.Spec PyProof.Rows L2 HT
theorem fm_congr {α β : Type} {f g : α → Option β} : ∀ {l : List α}, (∀ x ∈ l, f x = g x) → l.filterMap f = l.filterMap g
  | [], _ => rfl
  | a :: l, h => by
    have ih := fm_congr (l := l) fun x hx => h x (List.mem_cons_of_mem _ hx)
    rw [List.filterMap_cons, List.filterMap_cons, h a List.mem_cons_self, ih]
/-! ### t[::-1] of a tuple -/
theorem rev_pick (xs : Array Value) : ((List.range xs.size).filterMap fun (m : Nat) => xs[((xs.size : Int) - 1 + (m : Int) * (-1)).toNat]?).toArray = xs.toList.reverse.toArray := by
  have h := pick_run xs.toList.reverse.toArray 0 xs.size
  rw [List.filterMap_map] at h
  have e : ((fun x => xs.toList.reverse.toArray[x]?) ∘ fun x => 0 + x) = fun (m : Nat) => xs.toList.reverse[m]? := by
    funext m
    simp
  rw [e] at h
  have h2 : (List.range xs.size).filterMap (fun (m : Nat) => xs[((xs.size : Int) - 1 + (m : Int) * (-1)).toNat]?) = (List.range xs.size).filterMap fun (m : Nat) => xs.toList.reverse[m]? := by
    apply fm_congr
    intro m hm
    have hm := List.mem_range.mp hm
    have e2 : ((xs.size : Int) - 1 + (m : Int) * (-1)).toNat = xs.size - 1 - m := by omega
    rw [e2, List.getElem?_reverse (by rw [Array.length_toList]; exact hm), Array.length_toList, Array.getElem?_toList]
  rw [h2, h, List.drop_zero, List.take_of_length_le (by simp)]
section
variable {prog : Program} {w : World} {A : Around} {E : Value → Shared → Prop} {s : Shared}
theorem adj_rev (n : Nat) : Builtin.Slice.sliceAdjust none none (-1) (n : Int) = ((n : Int) - 1, -1) := by
  unfold Builtin.Slice.sliceAdjust
  rfl
theorem places_rev (n : Nat) : Builtin.Slice.slicePlaces ((n : Int) - 1) (-1) (-1) = n := by
  unfold Builtin.Slice.slicePlaces
  have h1 : ¬ ((-1 : Int) > 0) := by omega
  simp only [h1, if_false, Int.neg_neg, Int.ediv_one]
  split <;> omega
theorem applied_rev {sl : Addr} {vs : Value} {n : Nat} {Q : Int × Int × Nat → Shared → Prop} (hs : s.heap.IsSliceOf sl .none .none vs) (ps : IsPart vs (some (-1)))
    (h : Q ((n : Int) - 1, -1, n) s) : wpAny (model prog w) A (Builtin.Slice.sliceApplied (.ref sl) (pure (n : Int))) Q E s := by
  obtain ⟨os, ho, hc, hd⟩ := id hs
  unfold Builtin.Slice.sliceApplied Builtin.Slice.sliceFields
  refine wpAny_bind (wpAny_bind (wpAny_field ho hd (x := .none) rfl (wpAny_bind (wpAny_field ho hd (x := .none) rfl (wpAny_bind (wpAny_field ho hd (x := vs) rfl (wpAny_pure ?_)))))))
  refine wpAny_bind (slicePart_ ps ?_)
  show wpAny _ _ (if ((-1 : Int) == 0) = true then _ else _) _ _ s
  rw [if_neg (by decide)]
  refine wpAny_bind (slicePart_none (wpAny_bind (slicePart_none (wpAny_bind (wpAny_pure ?_)))))
  show wpAny _ _ (match Builtin.Slice.sliceAdjust none none (-1) (n : Int) with | (lo, hi) => pure (lo, (-1 : Int), Builtin.Slice.slicePlaces lo hi (-1))) _ _ s
  rw [adj_rev]
  show wpAny _ _ (pure ((n : Int) - 1, (-1 : Int), Builtin.Slice.slicePlaces ((n : Int) - 1) (-1) (-1))) _ _ s
  rw [places_rev]
  exact wpAny_pure h
theorem tuple_revd {t sl : Addr} {its : Array Value} {vs : Value} {Q : Value → Shared → Prop} (ht : IsTup s.heap t its) (hs : s.heap.IsSliceOf sl .none .none vs) (ps : IsPart vs (some (-1)))
    (h : Q (.ref s.heap.objs.size) { s with heap := s.heap.push { cls := .type "tuple", data := .seq its.toList.reverse.toArray } }) (hz : its.size ≤ sizeLine) : wpAny (model prog w) A (getItem (.ref t) (.ref sl)) Q E s := by
  have fits : sizeOk (.seq its.toList.reverse.toArray) := by
    show its.toList.reverse.toArray.size ≤ sizeLine
    rw [List.size_toArray, List.length_reverse, Array.length_toList]
    exact hz
  obtain ⟨os, ho, hc, hd⟩ := id hs
  have tS : s.TypeIs (.ref sl) "slice" := ⟨os, ho, hc⟩
  unfold getItem
  try with_reducible refine wpAny_holding ?_
  first | refine wpAny_bind (wpAny_pure ?_) | skip
  refine wpAny_bind (wpAny_sequenceKey ht.typeIs (by decide) ?_)
  refine wpAny_bind (wpAny_callSpecial?_slot (name := Str.ofString "__getitem__") ht.typeIs PyProof.Rows.slot_tuple_getitem (wpAny_call_entry PyProof.Rows.slot_tuple_getitem ht.typeIs entry_tuple_getitem ?_ (args_tuple_getitem _ _)))
  show wpAny _ _ (Builtin.Tuple.tupleItemsOf (.ref t) >>= _) _ _ s
  refine wpAny_bind (tupleItemsOf_ ht ?_)
  refine wpAny_bind (wpAny_typeOf tS ?_)
  rw [if_pos (by decide)]
  refine wpAny_bind (applied_rev hs ps ?_)
  have no : ¬ ((((its.size : Int) - 1) == 0 && (-1 : Int) == 1 && its.size == its.size) = true) := by
    intro q
    rw [Bool.and_eq_true, Bool.and_eq_true] at q
    exact absurd q.1.2 (by decide)
  show wpAny _ _ (if (((its.size : Int) - 1) == 0 && (-1 : Int) == 1 && its.size == its.size) = true then _ else _) _ _ s
  rw [if_neg no, rev_pick]
  first
    | exact wpAny_bind (m := Builtin.Tuple.tupleExact _) (wpAny_newObj_type (wpAny_pure ⟨_, rfl, wpAny_pure h⟩) fits)
    | exact wpAny_bind (m := Builtin.Tuple.tupleExact _) (wpAny_newObj_type (wpAny_bind (wpAny_pure (wpAny_pure ⟨_, rfl, wpAny_pure h⟩))) fits)
    | exact wpAny_bind (wpAny_bind (m := Builtin.Tuple.tupleExact _) (wpAny_newObj_type (wpAny_pure (wpAny_pure ⟨_, rfl, wpAny_pure h⟩)) fits))
    | exact wpAny_bind (wpAny_bind (m := Builtin.Tuple.tupleExact _) (wpAny_newObj_type (wpAny_pure ⟨_, rfl, wpAny_pure h⟩) fits))
end
section
variable {X : Cx}
/-- a tuple or a list from behind -/
def tRevA (K : PySem.W.Frag) (te : TE) : TE := fun σ H Q => te σ H fun x H1 => ∃ a xs, x = .ref a ∧ ((SqL K H1 a xs ∧ ∀ p, H1 p = none → Q (.ref p) (upd H1 p (.lst xs.reverse))) ∨ (SqT K H1 a xs ∧ ∀ p, H1 p = none → Q (.ref p) (upd H1 p (.tup xs.reverse))))
theorem pe_revA {e : Expr} {te : TE} {k : Nat} {p1 p2 p3 pos : Pos} (he : PE X e te) : PE X (.Subscript e (.Slice none none (some (.UnaryOp .USub (.Constant (.int 1) k p1) p2)) p3) pos) (tRevA X.K te) := by
  refine ⟨fun pins s σ H Q I h => ?_⟩
  refine Subscript_ (thn (he.run pins s σ H _ I h) fun v s1 ⟨x, H1, I1, r1, q1⟩ => ?_)
  obtain ⟨a, xs, ex, q⟩ := q1
  subst ex
  cases (show v = Value.ref a from r1)
  have step : PO X (some (.UnaryOp .USub (.Constant (.int 1) k p1) p2)) (tPart (tUn (rU fun i => .int (-i)) (tC (.int 1)))) := po_some (pe_un un_neg pe_int)
  refine wpAny_Slice (thn (po_none.run pins s1 σ H1 (fun o H2 => o = none ∧ H2 = H1) I1 ⟨rfl, rfl⟩) fun vl s2 ⟨l, H2, I2, pl, el, e2⟩ => ?_)
  subst el e2
  refine thn (po_none.run pins s2 σ H2 (fun o H3 => o = none ∧ H3 = H2) I2 ⟨rfl, rfl⟩) fun vu s3 ⟨u, H3, I3, pu, eu, e3⟩ => ?_
  subst eu e3
  refine thn (step.run pins s3 σ H3 (fun o H4 => o = some (-1) ∧ H4 = H3) I3 ⟨1, rfl, -1, rfl, rfl, rfl⟩) fun vs s4 ⟨o, H4, I4, ps, eo, e4⟩ => ?_
  subst eo e4
  have I5 : Inv X pins σ H4 { s4 with heap := s4.heap.push { cls := .type "slice", data := .fields #[vl, vu, vs] } } := I4.kept (t' := s4.toks) fun b ob q => Heap.get?_push_of_some _ q
  show wpAny (model X.prog X.w) X.A (subscriptTail e (.Slice none none (some (.UnaryOp .USub (.Constant (.int 1) k p1) p2)) p3) (.ref a) (.ref s4.heap.objs.size)) (EP X pins σ Q) X.xe { s4 with heap := s4.heap.push { cls := .type "slice", data := .fields #[vl, vu, vs] } }
  cases pl
  cases pu
  rcases q with ⟨hx, q⟩ | ⟨hx, q⟩
  · obtain ⟨its, r, ht, hz⟩ := I5.list hx
    have hlen := r.length
    refine tail_any (ops := [.ref a, .ref s4.heap.objs.size]) ht.isList.typeIs (PySem.slot_list_getitem.lookup) ?_ (by with_unfolding_all rfl)
    refine wpAny_getItem_list_slice ht.isList (Heap.IsSliceOf.new _ _ _ vs) .none .none ps (by decide) ?_ (by rw [List.size_toArray]; omega)
    rw [PySem.W.krv_pick]
    refine ⟨.ref _, _, I5.laid (t' := s4.toks) (o := .lst xs.reverse) (fun b ob q => Heap.get?_push_of_some _ q) (Nat.le_refl _) ?_, rfl, q _ (I5.hok.fresh (Nat.le_refl _))⟩
    exact ⟨by rw [List.length_reverse]; exact hz, _, 0, r.reverse, Heap.get?_push_size _ rfl⟩
  · obtain ⟨its, r, ht, hz⟩ := I5.tuple hx
    have hlen := r.length
    refine tail_any (ops := [.ref a, .ref s4.heap.objs.size]) ht.typeIs PyProof.Rows.slot_tuple_getitem.lookup ?_ (by with_unfolding_all rfl)
    refine tuple_revd ht (Heap.IsSliceOf.new _ _ _ vs) ps ?_ (by rw [List.size_toArray]; omega)
    refine ⟨.ref _, _, I5.laid (t' := s4.toks) (o := .tup xs.reverse) (fun b ob q => Heap.get?_push_of_some _ q) (Nat.le_refl _) ?_, rfl, q _ (I5.hok.fresh (Nat.le_refl _))⟩
    exact ⟨by rw [List.length_reverse]; exact hz, _, r.reverse, IsTup.new _ _⟩
/-! ### t * 1 -/
theorem tuple_mul1 (l : Addr) (items : Array Value) (n : Nat) (u : Tok) :
    Meets (Builtin.«tuple.__mul__» ⟨[.ref l, .int 1 u], []⟩) (fun _ R s => (∃ dd sl, s.heap.get? l = some { cls := .type "tuple", dict := dd, data := .seq items n, slots := sl }) ∧ R (.ok (.ret (Value.ref l))) s) :=
  .of_wp fun prog w A R s h => by
    obtain ⟨hp, g, d, tk, os⟩ := s
    obtain ⟨⟨dd, sl, hl⟩, h⟩ := h
    have f1 := AutoSeq1.idx_int
    have c1 : (items.isEmpty || (1 : Int) == 1) = true := by simp
    wp_walk using wpAny_loadPart' hl
    repeat (first
      | (refine wpAny_ite_false (by decide) ?_; wp_walk using wpAny_loadPart' hl)
      | (refine wpAny_ite_true c1 ?_; wp_walk using wpAny_loadPart' hl))
    exact ⟨_, rfl, h⟩
end
end DL
set_option maxRecDepth 100000
set_option maxHeartbeats 2000000
set_option linter.all false
namespace DL
open PySem PySem.Spec PyProof.Rows L2
/-! ### what the leaves promise, by values -/
def Op2 (G : GC) (X : Cx) (W : WX) (f : Value → Value → Sem Value) (F : D → D → DW → RW) : Prop :=
  ∀ (pins : List (Addr × Obj)) (s : Shared) (σ : L2.St) (H : Hp) (x y : V) (u v : Value) (Q : VK), Inv X pins σ H s → RelV x u → RelV y v → After2 G W (fun a b ρ w => (F a b w).at ρ) σ x y H Q → wpAny (model X.prog X.w) X.A (f u v) (EP X pins σ Q) X.xe s
def Op1 (G : GC) (X : Cx) (W : WX) (f : Value → Sem Value) (F : D → DW → RW) : Prop :=
  ∀ (pins : List (Addr × Obj)) (s : Shared) (σ : L2.St) (H : Hp) (x : V) (u : Value) (Q : VK), Inv X pins σ H s → RelV x u → After1 G W (fun a ρ w => (F a w).at ρ) σ x H Q → wpAny (model X.prog X.w) X.A (f u) (EP X pins σ Q) X.xe s
def OpL (G : GC) (X : Cx) (W : WX) (f : List Value → Sem Value) (F : List D → DW → RW) : Prop :=
  ∀ (pins : List (Addr × Obj)) (s : Shared) (σ : L2.St) (H : Hp) (vs : List V) (us : List Value) (Q : VK) (Bd : Addr → Prop) (ρ : En) (w : DW) (ds : List D), Inv X pins σ H s → Vals vs us → At G Bd ρ w σ H → DtL G (okA Bd (owns ρ σ)) H ds vs →
    PostE G W (Dt G) Bd ρ σ H ((F ds w).at ρ) Q → wpAny (model X.prog X.w) X.A (f us) (EP X pins σ Q) X.xe s
/-- truth -/
def OpT (G : GC) (X : Cx) (F : D → Option Bool) : Prop :=
  ∀ (pins : List (Addr × Obj)) (s : Shared) (σ : L2.St) (H : Hp) (x : V) (u : Value) (Q : Bool → Hp → Prop) (ok : Addr → Prop) (d : D) (b : Bool), Inv X pins σ H s → RelV x u → DtB G ok H d x → F d = some b → Q b H → wpAny (model X.prog X.w) X.A (truthy u) (TP X pins σ Q) X.xe s
/-- a pure operation of the layer, by its rule -/
theorem Op2.of {G : GC} {X : Cx} {W : WX} {f : Value → Value → Sem Value} {r : R2} {F : D → D → Option D} (h : OpR X f r)
    (ad : ∀ (ok : Addr → Prop) (H : Hp) (dx dy d : D) (x y : V) (Q : VK), DtB G ok H dx x → DtB G ok H dy y → F dx dy = some d → (∀ v H', Ext H H' → Dt G ok H' d v → Q v H') → (∀ a, H a = none → ok a) → r x y H Q) :
    Op2 G X W f (fun a b w => match F a b with | some d => .ok d w | none => .stuck) := by
  rintro pins s σ H x y u v Q I rx ry ⟨Bd, ρ, w, dx, dy, a, hx, hy, q⟩
  cases e : F dx dy with
  | none => simp only [e, RW.at] at q; exact q.elim
  | some d =>
    simp only [e, RW.at] at q
    refine h pins s σ H x y u v Q I rx ry (ad _ H dx dy d x y Q hx hy e (fun v H' e r => PostE.next a q e r) fun b hb => ?_)
    refine ⟨fun z => a.bd.there b z hb, fun z => ?_⟩
    obtain ⟨j, d', h1, h2⟩ := owns_mem (ok := okA Bd (owns ρ σ)) z
    obtain ⟨o, h3, a', h4, h5⟩ := a.en.sl.get h1
    rw [h2] at h3
    cases h3
    cases h4
    obtain ⟨o, h6, _⟩ := h5.notup
    rw [hb] at h6
    cases h6
theorem fresh_ok {G : GC} {Bd : Addr → Prop} {ρ : En} {w : DW} {σ : L2.St} {H : Hp} (a : At G Bd ρ w σ H) {b : Addr} (hb : H b = none) : okA Bd (owns ρ σ) b := by
  refine ⟨fun z => a.bd.there b z hb, fun z => ?_⟩
  obtain ⟨j, d', h1, h2⟩ := owns_mem (ok := okA Bd (owns ρ σ)) z
  obtain ⟨o, h3, a', h4, h5⟩ := a.en.sl.get h1
  rw [h2] at h3
  cases h3
  cases h4
  obtain ⟨o, h6, _⟩ := h5.notup
  rw [hb] at h6
  cases h6
/-! ### calls of defs -/
def PostC (G : GC) (Bd : Addr → Prop) (H : Hp) (r : RW) (Q : VK) (E : XK) : Prop := match r with
  | .ok d w => ∀ v H', Stp G [] H H' → DkD G H' w → Dt G (fun a => ¬ Bd a) H' d v → Q v H'
  | .exc x w => ∀ cls dd H', Stp G [] H H' → DkD G H' w → ExD G (fun a => ¬ Bd a) H' x cls dd → E cls dd H'
  | .stuck => False
structure FnD (G : GC) (P : Program) (wd : World) (base : Heap) (k : Nat) (f : Addr) (fd : FuncData) (ps : List Str) (F : Fn) : Prop where
  len : ∀ ds w, F ds w ≠ .stuck → ds.length = ps.length
  run : ∀ (A : Around) (outer : List Env) (s : Shared) (H : Hp) (args : Args) (us : List Value) (vs : List V) (Q : VK) (E : XK) (Bd : Addr → Prop) (ds : List D) (w : DW), A.guards = some [] → Room k A → Env0 P wd G.K G.mg base A outer s H → BindsTo s fd args (ps.zip us) → Vals vs us →
    BdOk G Bd H → DkD G H w → DtL G (fun a => ¬ Bd a) H ds vs → PostC G Bd H (F ds w) Q E → codeAny (model P wd) A (.call (.ref f) args) (CR (L2.CX P wd) outer P wd H s Q E) s
theorem FnD.mono {G : GC} {P : Program} {wd : World} {base : Heap} {j k : Nat} {f : Addr} {fd : FuncData} {ps : List Str} {F : Fn} (h : FnD G P wd base j f fd ps F) (hk : j ≤ k) : FnD G P wd base k f fd ps F :=
  ⟨h.len, fun A outer s H args us vs Q E Bd ds w hg hr => h.run A outer s H args us vs Q E Bd ds w hg (hr.mono hk)⟩
/-- a value that is called, with its data's meaning -/
def CalD (G : GC) (P : Program) (wd : World) (base : Heap) (k : Nat) (val : Value) (F : Fn) : Prop := ∀ (X : Cx) (W : WX), Cxy G P wd base k X W → OpL G X W (fun us => call val us) F
/-- the same, arguments that may be own, a flat answer -/
def CalB (G : GC) (P : Program) (wd : World) (base : Heap) (k : Nat) (val : Value) (F : Fn) : Prop := ∀ (X : Cx) (W : WX), Cxy G P wd base k X W →
  ∀ (pins : List (Addr × Obj)) (s : Shared) (σ : L2.St) (H : Hp) (vs : List V) (us : List Value) (Q : VK) (Bd : Addr → Prop) (ρ : En) (w : DW) (ds : List D), Inv X pins σ H s → Vals vs us → At G Bd ρ w σ H → DtL G (fun a => ¬ Bd a) H ds vs →
    PostE G W (Dt G) Bd ρ σ H ((flatW (F ds w)).at ρ) Q → wpAny (model X.prog X.w) X.A (call val us) (EP X pins σ Q) X.xe s
section
variable {G : GC} {P : Program} {wd : World} {base : Heap} {k : Nat} {N : List Str} {sc : Scope} {fa : Bool} {X : Cx} {W : WX} {Bd : Addr → Prop} {ρ : En} {w : DW} {σ : L2.St} {H H' : Hp}
/-- a callee's bounds -/
abbrev BdC (Bd : Addr → Prop) (A : List Addr) : Addr → Prop := fun a => Bd a ∨ a ∈ A
theorem owned_there (a : At G Bd ρ w σ H) {b : Addr} (hb : b ∈ owns ρ σ) : H b ≠ none := by
  obtain ⟨j, d', h1, h2⟩ := owns_mem (ok := okA Bd (owns ρ σ)) hb
  obtain ⟨o, h3, a', h4, h5⟩ := a.en.sl.get h1
  rw [h2] at h3
  cases h3
  cases h4
  obtain ⟨o, h6, _⟩ := h5.notup
  rw [h6]
  simp
theorem At.callee (a : At G Bd ρ w σ H) : BdOk G (BdC Bd (owns ρ σ)) H := ⟨.inl a.bd.dk, .inl a.bd.gl, fun b hb => by
  rcases hb with z | z
  · exact a.bd.there b z
  · exact owned_there a z⟩
theorem bdC_ok {A : List Addr} {d : D} {v : V} (h : Dt G (okA Bd A) H d v) : Dt G (fun a => ¬ BdC Bd A a) H d v := h.mono (fun a o k e => ⟨fun z => z.elim k.1 k.2, e⟩) fun _ _ e => e
theorem bdC_okL {A : List Addr} {d : List D} {v : List V} (h : DtL G (okA Bd A) H d v) : DtL G (fun a => ¬ BdC Bd A a) H d v := h.mono (fun a o k e => ⟨fun z => z.elim k.1 k.2, e⟩) fun _ _ e => e
theorem bdC_back {A : List Addr} {d : D} {v : V} (h : Dt G (fun a => ¬ BdC Bd A a) H d v) : Dt G (okA Bd A) H d v := h.mono (fun a o k e => ⟨⟨fun z => k (.inl z), fun z => k (.inr z)⟩, e⟩) fun _ _ e => e
theorem bdC_backL {A : List Addr} {d : List D} {v : List V} (h : DtL G (fun a => ¬ BdC Bd A a) H d v) : DtL G (okA Bd A) H d v := h.mono (fun a o k e => ⟨⟨fun z => k (.inl z), fun z => k (.inr z)⟩, e⟩) fun _ _ e => e
/-- the slots behind a call -/
theorem At.behind {w' : DW} (a : At G Bd ρ w σ H) (s : Stp G [] H H') (dk : DkD G H' w') : EnD G Bd H' ρ σ := by
  refine ⟨a.en.sl.mono (fun b o k e => ⟨k, s.keep b o e (by simp) (fun z => k.1 (by rw [z]; exact a.bd.dk)) fun z => k.1 (by rw [z]; exact a.bd.gl)⟩) s.tup fun b hb => ?_, a.en.nd, a.en.nb⟩
  have nb := a.en.nb b hb
  cases e : H b with
  | none => exact absurd e (owned_there a hb)
  | some o => exact s.keep b o e (by simp) (fun z => nb (by rw [z]; exact a.bd.dk)) fun z => nb (by rw [z]; exact a.bd.gl)
theorem PostC.ofE {r : RW} {Q : VK} (a : At G Bd ρ w σ H) (h : PostE G W (Dt G) Bd ρ σ H (r.at ρ) Q) : PostC G (BdC Bd (owns ρ σ)) H r Q (fun cls dd H' => W cls dd σ H') := by
  cases r with
  | ok d w' => exact fun v H' s dk r => h v H' (s.sub fun b hb => by simp at hb) (a.behind s dk) (fun _ h => h) dk (bdC_back r)
  | exc x w' => exact fun cls dd H' s dk r => h cls dd H' (s.sub fun b hb => by simp at hb) (a.behind s dk) (fun _ h => h) dk (by
      obtain ⟨C, h1, h2, h3⟩ := r
      refine ⟨C, h1, h2, h3.imp id ?_⟩
      rintro ⟨d, us, h4, h5, h6, h7⟩
      exact ⟨d, us, h4, h5, h6, bdC_backL h7⟩)
  | stuck => exact h
/-- a def, called -/
theorem FnD.cal {f : Addr} {fd : FuncData} {ps : List Str} {F : Fn} {ds : List Value} {dvs : List V} {dd : List D} (h : FnD G P wd base k f fd ps F) (hb : Binds G.K fd ps ds) (hd : Vals dvs ds) (hdd : ∀ ok H, DtL G ok H dd dvs) : CalD G P wd base k (.ref f) (fun as w => F (as ++ dd) w) := by
  rintro X W c pins s σ H vs us Q Bd ρ w as I r a hv q
  have q' : PostC G (BdC Bd (owns ρ σ)) H (F (as ++ dd) w) Q (fun cls dd H' => W cls dd σ H') := PostC.ofE a q
  have r2 : Vals (vs ++ dvs) (us ++ ds) := r.append hd
  have hl : (us ++ ds).length = ps.length := by
    rw [← r2.length, ← h.len (as ++ dd) w (fun z => by rw [z] at q'; exact q')]
    rw [List.length_append, List.length_append, hv.length, (hdd (fun _ => True) H).length]
  have e0 := I.env0
  rw [c.K, c.mg, c.prog, c.w, c.base] at e0
  have kin := I.kIn
  rw [c.K] at kin
  have run := h.run X.A X.stack s H ⟨us, []⟩ (us ++ ds) (vs ++ dvs) Q (fun cls dd H' => W cls dd σ H') _ (as ++ dd) w c.gd c.room e0 (hb s us kin hl) r2 a.callee a.dk ((bdC_okL hv).append (hdd _ _)) q'
  rw [← c.prog, ← c.w] at run
  refine wpAny_call (codeAny_mono run fun r s' hq => ?_)
  cases r with
  | error e => exact c.tk e s' (XE.of_call I (fun _ _ _ h => h) hq)
  | ok fl =>
    cases fl with
    | ret u => exact I.after hq
    | next => exact False.elim hq
    | brk => exact False.elim hq
    | cont => exact False.elim hq
theorem dt_flat {ok ok' : Addr → Prop} {d : D} {v : V} (f : flatD d = true) (h : Dt G ok H d v) : Dt G ok' H d v := by
  cases d <;> first | exact h | (exact absurd f Bool.false_ne_true)
theorem FnD.calB {f : Addr} {fd : FuncData} {ps : List Str} {F : Fn} {ds : List Value} {dvs : List V} {dd : List D} (h : FnD G P wd base k f fd ps F) (hb : Binds G.K fd ps ds) (hd : Vals dvs ds) (hdd : ∀ ok H, DtL G ok H dd dvs) : CalB G P wd base k (.ref f) (fun as w => F (as ++ dd) w) := by
  rintro X W c pins s σ H vs us Q Bd ρ w as I r a hv q
  have q : PostE G W (Dt G) Bd ρ σ H ((flatW (F (as ++ dd) w)).at ρ) Q := q
  have q' : PostC G Bd H (F (as ++ dd) w) Q (fun cls dd H' => W cls dd σ H') := by
    cases e : F (as ++ dd) w with
    | ok d w' =>
      rw [e] at q
      simp only [flatW] at q
      by_cases hf : flatD d = true
      · rw [if_pos hf] at q
        exact fun v H' st dk r => q v H' (st.sub fun b hb => by simp at hb) (a.behind st dk) (fun _ h => h) dk (dt_flat hf r)
      · rw [if_neg hf] at q
        exact q.elim
    | exc x w' => rw [e] at q; exact q.elim
    | stuck => rw [e] at q; exact q.elim
  have r2 : Vals (vs ++ dvs) (us ++ ds) := r.append hd
  have hl : (us ++ ds).length = ps.length := by
    rw [← r2.length, ← h.len (as ++ dd) w (fun z => by rw [z] at q'; exact q')]
    rw [List.length_append, List.length_append, hv.length, (hdd (fun _ => True) H).length]
  have e0 := I.env0
  rw [c.K, c.mg, c.prog, c.w, c.base] at e0
  have kin := I.kIn
  rw [c.K] at kin
  have run := h.run X.A X.stack s H ⟨us, []⟩ (us ++ ds) (vs ++ dvs) Q (fun cls dd H' => W cls dd σ H') Bd (as ++ dd) w c.gd c.room e0 (hb s us kin hl) r2 a.bd a.dk (hv.append (hdd _ _)) q'
  rw [← c.prog, ← c.w] at run
  refine wpAny_call (codeAny_mono run fun r s' hq => ?_)
  cases r with
  | error e => exact c.tk e s' (XE.of_call I (fun _ _ _ h => h) hq)
  | ok fl =>
    cases fl with
    | ret u => exact I.after hq
    | next => exact False.elim hq
    | brk => exact False.elim hq
    | cont => exact False.elim hq
end
/-! ### pure leaves, over the layer's rules -/
def Pure1 (G : GC) (F : D → Option D) (x : V) (H : Hp) (Q : VK) : Prop := ∃ (ok : Addr → Prop) (d e : D), DtB G ok H d x ∧ F d = some e ∧ (∀ a, H a = none → ok a) ∧ ∀ v H', Ext H H' → Dt G ok H' e v → Q v H'
def PureL (G : GC) (F : List D → Option D) (xs : List V) (H : Hp) (Q : VK) : Prop := ∃ (ok : Addr → Prop) (ds : List D) (e : D), DtL G ok H ds xs ∧ F ds = some e ∧ (∀ a, H a = none → ok a) ∧ ∀ v H', Ext H H' → Dt G ok H' e v → Q v H'
def Pure2 (G : GC) (F : D → List D → Option D) (x : V) (xs : List V) (H : Hp) (Q : VK) : Prop := ∃ (ok : Addr → Prop) (d : D) (ds : List D) (e : D), DtB G ok H d x ∧ DtL G ok H ds xs ∧ F d ds = some e ∧ (∀ a, H a = none → ok a) ∧ ∀ v H', Ext H H' → Dt G ok H' e v → Q v H'
def PureS (G : GC) (F : D → Option Int → Option Int → Option D) (x : V) (lo hi : Option Int) (H : Hp) (Q : VK) : Prop := ∃ (ok : Addr → Prop) (d e : D), DtB G ok H d x ∧ F d lo hi = some e ∧ (∀ a, H a = none → ok a) ∧ ∀ v H', Ext H H' → Dt G ok H' e v → Q v H'
/-- a new object -/
def PureF (G : GC) (F : D → Option D) (x : V) (H : Hp) (Q : VK) : Prop := ∃ (ok : Addr → Prop) (d e : D), DtB G ok H d x ∧ F d = some e ∧ (∀ a, H a = none → ok a) ∧ ∀ a H', H a = none → Ext H H' → OwD G (fun b => ok b ∧ b ≠ a) H' e a → Q (.ref a) H'
/-- a built-in function or class -/
def IsB (v : Value) : Prop := (∃ id, v = .builtin id) ∨ ∃ T, v = .type T
/-- expressions with their meanings -/
inductive PEs (X : Cx) (G : GC) (W : WX) : List Expr → List (En → DW → R D) → Prop where
  | nil : PEs X G W [] []
  | cons {e : Expr} {f : En → DW → R D} {es : List Expr} {fs : List (En → DW → R D)} (h : PE X e (tD G W f)) (hs : notStar e = true) (r : PEs X G W es fs) : PEs X G W (e :: es) (f :: fs)
def seqL : List (En → DW → R D) → En → DW → R (List D)
  | [], ρ, w => .ok [] ρ w
  | f :: fs, ρ, w => (f ρ w).bind fun d ρ w => (seqL fs ρ w).bind fun ds ρ w => .ok (d :: ds) ρ w
def PXs.list : PXs → List PX
  | .nil => []
  | .cons p ps => p :: ps.list
theorem evs_seq {Γ : Gm} : ∀ ps : PXs, evs Γ ps = seqL (ps.list.map (ev Γ))
  | .nil => by funext ρ w; rw [evs_nil]; rfl
  | .cons p ps => by
    funext ρ w
    rw [evs_cons]
    show _ = seqL (ev Γ p :: ps.list.map (ev Γ)) ρ w
    rw [evs_seq ps]
    rfl
/-- a method of built-in values, of an own instance; one that changes a named object -/
def MthOk (G : GC) (X : Cx) (W : WX) (name : Str) (kd : Nat) (F : D → List D → Option D) : Prop := ∀ (o : Expr) (apos : Pos) (es : List Expr) (cpos : Pos) (po : PX) (fo : En → DW → R D) (fs : List (En → DW → R D)), notCall o = true → (apos.endLine == cpos.line) = true → es.length < 9 → PE X o (tA G W po fo) → PEs X G W es fs →
  PE X (.Call (.Attribute o name apos) es [] cpos) (tD G W (mthD (some (kd, F)) po fo (seqL fs)))
def ImthOk (G : GC) (X : Cx) (W : WX) (name : Str) (cp : Str → List Str → Bool) (F : D → List D → DW → RW) : Prop := ∀ (o : Expr) (apos : Pos) (es : List Expr) (cpos : Pos) (fo : En → DW → R D) (fs : List (En → DW → R D)), notCall o = true → (apos.endLine == cpos.line) = true → es.length < 9 → PE X o (tD G W fo) → PEs X G W es fs →
  PE X (.Call (.Attribute o name apos) es [] cpos) (tD G W (imthD (some (cp, F)) fo (seqL fs)))
def MutOk (G : GC) (X : Cx) (W : WX) (name : Str) (kd : Nat) (F : D → List D → Option (D × D)) : Prop := ∀ (o : Expr) (apos : Pos) (es : List Expr) (cpos : Pos) (i : Nat) (fs : List (En → DW → R D)), notCall o = true → (apos.endLine == cpos.line) = true → es.length < 9 → PE X o (tVar i) → PEs X G W es fs →
  PE X (.Call (.Attribute o name apos) es [] cpos) (tD G W (mutGD (some (kd, F)) i (seqL fs)))
def SetOk (G : GC) (X : Cx) (W : WX) (F : D → D → D → Option D) : Prop := ∀ (o ke ve : Expr) (p1 pos : Pos) (i : Nat) (fk fv : En → DW → R D) (Γ : Gm), Γ.set = F → PE X o (tVar i) → PE X ke (tD G W fk) → PE X ve (tD G W fv) → notComp ve = true → notSlice ke = true →
  PS X (.Assign [.Subscript o ke p1] ve pos) (tDS G W fun ρ w => (fv ρ w).bindS fun y ρ w => setT Γ i fk y ρ w)
/-- a call by names alone -/
def kiF (Γ : Gm) (f : Str) (F : Fn) (ks : List Str) : Fn := fun us w => match Γ.ki f [] ks us with
  | some ds => F ds w
  | none => .stuck
def CalK (G : GC) (P : Program) (wd : World) (base : Heap) (k : Nat) (val : Value) (ks : List Str) (F : Fn) : Prop := ∀ (X : Cx) (W : WX), Cxy G P wd base k X W → OpL G X W (fun us => call val [] (ks.zip us)) F
/-- a dict with tuples as keys, being made -/
def DcAcc (G : GC) (ok : Addr → Prop) (H : Hp) (acc : D) (kvs : List (List Key × V)) : Prop := ∃ vs, acc = .dT (kvs.map (·.1)) vs ∧ DtL G ok H vs (kvs.map (·.2))
def DcpOk (G : GC) (F : D → D → D → Option D) : Prop := ∀ (acc x y acc' : D) (ok : Addr → Prop) (H : Hp) (kvs : List (List Key × V)) (xv yv : V), F acc x y = some acc' → DcAcc G ok H acc kvs → Dt G ok H x xv → Dt G ok H y yv →
  ∃ kk b, xv = .ref b ∧ H b = some (.tup (kk.map kV)) ∧ kvs.length < sizeLine ∧ DcAcc G ok H acc' (putK kvs kk yv)
/-- an own operator, both operands handed on -/
def ow2 : Ow2 → Value → Value → Sem Value
  | .bin o => binaryOp o
  | .cmp o => compareOp o
def OpO (G : GC) (X : Cx) (W : WX) (f : Value → Value → Sem Value) (F : D → D → DW → RW) : Prop :=
  ∀ (pins : List (Addr × Obj)) (s : Shared) (σ : L2.St) (H : Hp) (x y : V) (u v : Value) (Q : VK) (Bd : Addr → Prop) (ρ : En) (w : DW) (dx dy : D), Inv X pins σ H s → RelV x u → RelV y v → At G Bd ρ w σ H →
    Dt G (okA Bd (owns ρ σ)) H dx x → Dt G (okA Bd (owns ρ σ)) H dy y → PostE G W (Dt G) Bd ρ σ H ((F dx dy w).at ρ) Q → wpAny (model X.prog X.w) X.A (f u v) (EP X pins σ Q) X.xe s
/-! ### the leaves -/
structure GmOk (G : GC) (P : Program) (wd : World) (base : Heap) (k : Nat) (Γ : Gm) : Prop where
  con : ∀ x d, Γ.con x = some d → ∃ u v, G.mg x = some u ∧ RelV v u ∧ ∀ ok H, Dt G ok H d v
  fn : ∀ f F, Γ.fn f = some F → ∃ a, G.mg f = some (.ref a) ∧ PySem.W.keepIn G.K (.ref a) = true ∧ CalD G P wd base k (.ref a) F ∧ CalB G P wd base k (.ref a) F
  bin : ∀ X W, Cxy G P wd base k X W → ∀ o, Op2 G X W (binaryOp o) (Γ.bin o)
  cmp : ∀ X W, Cxy G P wd base k X W → ∀ o, Op2 G X W (compareOp o) (Γ.cmp o)
  get : ∀ X W, Cxy G P wd base k X W → ∀ a b, PlainIx b → Op2 G X W (fun o i => subscriptTail a b o i) Γ.get
  tru : ∀ X W, Cxy G P wd base k X W → OpT G X Γ.tru
  it : ∀ d ds, Γ.it d = some ds → d = .lst ds ∨ d = .tup ds ∨ ∃ s : Str, d = .str s ∧ ds = s.cps.toList.map fun c => .str ⟨#[c]⟩
  fo : ∀ c f, Γ.fo c f = true → ∀ C, G.ct c = some C → Cls G.K C ∧ NoAttr G.K C f
  b1 : ∀ f F, Γ.b1 f = some F → ∃ val, G.mg f = none ∧ bootBuiltins f = some val ∧ IsB val ∧ ∀ X W, Cxy G P wd base k X W → Op1 G X W (fun u => call val [u]) F
  bF : ∀ f F, Γ.bF f = some F → ∃ val, G.mg f = none ∧ bootBuiltins f = some val ∧ IsB val ∧ ∀ X W, Cxy G P wd base k X W → CallR X val fun xs H Q => ∃ x, xs = [x] ∧ PureF G F x H Q
  bn : ∀ f F, Γ.bn f = some F → ∃ val, G.mg f = none ∧ bootBuiltins f = some val ∧ IsB val ∧ ∀ X W, Cxy G P wd base k X W → CallR X val (PureL G F)
  neg : ∀ X W, Cxy G P wd base k X W → ∀ (pins : List (Addr × Obj)) (s : Shared) (σ : L2.St) (H : Hp) (x : V) (u : Value) (Q : VK), Inv X pins σ H s → RelV x u → Pure1 G Γ.neg x H Q → wpAny (model X.prog X.w) X.A (unaryOp .USub u) (EP X pins σ Q) X.xe s
  isi : ∀ t F, Γ.isi t = some F → ∃ u c, ClsV c u ∧ ((G.mg t = none ∧ bootBuiltins t = some u) ∨ G.mg t = some u) ∧ G.mg "isinstance" = none ∧ ∀ d b, F d = some b → ∀ ok H x, DtB G ok H d x → ∃ ty, TyX G.K H x ty ∧ PySem.W.kitOne G.K ty u = some b
  slc : ∀ X W, Cxy G P wd base k X W → SlR X (PureS G Γ.slc)
  m : ∀ f kd F, Γ.m f = some (kd, F) → ∀ X W, Cxy G P wd base k X W → MthOk G X W f kd F
  im : ∀ f cp F, Γ.im f = some (cp, F) → ∀ X W, Cxy G P wd base k X W → ImthOk G X W f cp F
  mu : ∀ f kd F, Γ.mu f = some (kd, F) → ∀ X W, Cxy G P wd base k X W → MutOk G X W f kd F
  sset : ∀ F, Γ.sset = some F → G.mg "sorted" = none ∧ G.mg "set" = none ∧ ∀ X W, Cxy G P wd base k X W → ∀ (v : Value) (x : V) (pins : List (Addr × Obj)) (s : Shared) (σ : L2.St) (H : Hp) (Q : VK), Inv X pins σ H s → RelV x v → PureF G F x H Q →
    wpAny (model X.prog X.w) X.A (call (.type "set") [v]) (fun u s1 => wpAny (model X.prog X.w) X.A (call (.builtin "sorted") [u]) (EP X pins σ Q) X.xe s1) X.xe s
  set : ∀ X W, Cxy G P wd base k X W → SetOk G X W Γ.set
  dcp : DcpOk G Γ.dcp
  own2 : ∀ X W, Cxy G P wd base k X W → ∀ g, OpO G X W (ow2 g) (Γ.own2 g)
  fmt : ∀ d e, Γ.fmt d = some e → (∃ s, d = .str s ∧ e = d) ∨ ∃ i : Int, d = .int i ∧ i.natAbs.log2 < 1920 ∧ e = .str (toString i)
  range : G.mg "range" = none
  zip : G.mg "zip" = none
  cat : ∀ x ds w, Γ.bin .Add x (.lst ds) w = .stuck ∨ ∃ xs, x = .lst xs ∧ Γ.bin .Add x (.lst ds) w = .ok (.lst (xs ++ ds)) w ∧ xs.length + ds.length ≤ sizeLine
  rev : ∀ d e, Γ.rev d = some e → (∃ xs, d = .lst xs ∧ e = .lst xs.reverse) ∨ ∃ xs, d = .tup xs ∧ e = .tup xs.reverse
  fnK : ∀ f F ks us ds, Γ.fn f = some F → Γ.ki f [] ks us = some ds → ∃ a, G.mg f = some (.ref a) ∧ PySem.W.keepIn G.K (.ref a) = true ∧ CalK G P wd base k (.ref a) ks (kiF Γ f F ks)
section
variable {G : GC} {P : Program} {wd : World} {base : Heap} {k : Nat} {N : List Str} {sc : Scope} {fa : Bool} {X : Cx} {W : WX} {Γ : Gm} {a b c : Expr} {pos : Pos}
theorem c_con {d : D} {e : Expr} {v : V} (h : PE X e (tC v)) (hv : ∀ ok H, Dt G ok H d v) : PE X e (tD G W (ev Γ (.con d))) := PE.weak h fun σ H Q ⟨Bd, ρ, w, a, q⟩ => by
  rw [ev_con] at q
  exact PostE.here a q (hv _ _)
theorem c_glob (M : GmOk G P wd base k Γ) (c : Cxx G P wd base k N sc fa X W) {x : Str} (hg : glB sc x = true) (hn : plainN x = true) : PE X (.Name x pos) (tD G W (ev Γ (.glob x))) := by
  refine ⟨fun pins s σ H Q I h => ?_⟩
  obtain ⟨Bd, ρ, w, a, q⟩ := h
  rw [ev_glob] at q
  cases e : Γ.con x with
  | none => rw [e] at q; exact q.elim
  | some d =>
    rw [e] at q
    obtain ⟨u, v, h1, h2, h3⟩ := M.con x d e
    exact (pe_glob (v := v) (c.gl hg) (by rw [c.mg]; exact h1) h2 (plainN_of hn).1).run pins s σ H Q I (PostE.here a q (h3 _ _))
theorem c_bin {o : Operator} {pa pb : PX} (ho : Op2 G X W (binaryOp o) (Γ.bin o)) (ha : PE X a (tA G W pa (ev Γ pa))) (hb : PE X b (tDB G W (brw pb (ev Γ pb)))) : PE X (.BinOp a o b pos) (tD G W (ev Γ (.bin o pa pb))) := by
  refine ⟨fun pins s σ H Q I h => ?_⟩
  rw [ev_bin] at h
  exact wpAny_BinOp (binT ha hb I (two_split h) fun v u s2 x y H2 I2 rx ry q => ho pins s2 σ H2 x y v u Q I2 rx ry q)
theorem c_cmp {o : CmpOp} {pa pb : PX} (ho : Op2 G X W (compareOp o) (Γ.cmp o)) (ha : PE X a (tA G W pa (ev Γ pa))) (hb : PE X b (tDB G W (brw pb (ev Γ pb)))) (hm : behindInMarks o b = false) : PE X (.Compare a [o] [b] pos) (tD G W (ev Γ (.cmp o pa pb))) := by
  refine ⟨fun pins s σ H Q I h => ?_⟩
  rw [ev_cmp] at h
  exact wpAny_Compare1 (binT ha hb I (two_split h) fun v u s2 x y H2 I2 rx ry q => ho pins s2 σ H2 x y v u Q I2 rx ry q) hm
theorem c_sub {pa pb : PX} (ho : Op2 G X W (fun o i => subscriptTail a b o i) Γ.get) (ha : PE X a (tA G W pa (ev Γ pa))) (hb : PE X b (tDB G W (brw pb (ev Γ pb)))) : PE X (.Subscript a b pos) (tD G W (ev Γ (.sub pa pb))) := by
  refine ⟨fun pins s σ H Q I h => ?_⟩
  rw [ev_sub] at h
  exact Subscript_ (binT ha hb I (two_split h) fun v u s2 x y H2 I2 rx ry q => ho pins s2 σ H2 x y v u Q I2 rx ry q)
theorem own2_split {g : Ow2} {pa pb : PX} {σ : L2.St} {H : Hp} {Q : VK} (h : tD G W (ev Γ (.own2 g pa pb)) σ H Q) :
    tD G W (ev Γ pa) σ H fun x H1 => tD G W (ev Γ pb) σ H1 fun y H2 => ∃ Bd ρ w dx dy, At G Bd ρ w σ H2 ∧ Dt G (okA Bd (owns ρ σ)) H2 dx x ∧ Dt G (okA Bd (owns ρ σ)) H2 dy y ∧ PostE G W (Dt G) Bd ρ σ H2 ((Γ.own2 g dx dy w).at ρ) Q := by
  obtain ⟨Bd, ρ, w, a, q⟩ := h
  rw [ev_own2] at q
  refine ⟨Bd, ρ, w, a, PostE.bind a q fun dx ρ1 w1 x H1 m r q1 => ?_⟩
  refine ⟨Bd, ρ1, w1, m.at_, PostE.bind m.at_ q1 fun dy ρ2 w2 y H2 m2 r2 q2 => ?_⟩
  exact ⟨Bd, ρ2, w2, dx, dy, m2.at_, Dt.carry m.at_.bd m2.stp (fun b hb => .inl (m2.sub b hb)) r, r2, q2⟩
theorem c_own2b {o : Operator} {pa pb : PX} (ho : OpO G X W (binaryOp o) (Γ.own2 (.bin o))) (ha : PE X a (tD G W (ev Γ pa))) (hb : PE X b (tD G W (ev Γ pb))) : PE X (.BinOp a o b pos) (tD G W (ev Γ (.own2 (.bin o) pa pb))) :=
  ⟨fun pins s σ H Q I h => wpAny_BinOp (binT ha hb I (own2_split h) fun v u s2 x y H2 I2 rx ry ⟨Bd, ρ, w, dx, dy, a1, d1, d2, q⟩ => ho pins s2 σ H2 x y v u Q Bd ρ w dx dy I2 rx ry a1 d1 d2 q)⟩
theorem c_own2c {o : CmpOp} {pa pb : PX} (ho : OpO G X W (compareOp o) (Γ.own2 (.cmp o))) (ha : PE X a (tD G W (ev Γ pa))) (hb : PE X b (tD G W (ev Γ pb))) (hm : behindInMarks o b = false) : PE X (.Compare a [o] [b] pos) (tD G W (ev Γ (.own2 (.cmp o) pa pb))) :=
  ⟨fun pins s σ H Q I h => wpAny_Compare1 (binT ha hb I (own2_split h) fun v u s2 x y H2 I2 rx ry ⟨Bd, ρ, w, dx, dy, a1, d1, d2, q⟩ => ho pins s2 σ H2 x y v u Q Bd ρ w dx dy I2 rx ry a1 d1 d2 q) hm⟩
theorem pa_nilD : PA X [] (tDL G W (evs Γ .nil)) := PA.weak pa_nil fun σ H Q ⟨Bd, ρ, w, a, q⟩ => by
  rw [evs_nil] at q
  exact q [] H Stp.refl a.en (fun _ h => h) a.dk rfl
theorem pa_consD {e : Expr} {es : List Expr} {p : PX} {ps : PXs} (he : PE X e (tD G W (ev Γ p))) (hs : PA X es (tDL G W (evs Γ ps))) (hst : notStar e = true) : PA X (e :: es) (tDL G W (evs Γ (.cons p ps))) := by
  refine PA.weak (pa_cons he hs (starEach_of hst _ _)) fun σ H Q ⟨Bd, ρ, w, a, q⟩ => ?_
  rw [evs_cons] at q
  refine ⟨Bd, ρ, w, a, PostL.bind a q fun d ρ1 w1 v H1 m r q1 => ?_⟩
  refine ⟨Bd, ρ1, w1, m.at_, PostL.bindL m.at_ q1 fun ds ρ2 w2 vs H2 m2 r2 q2 => ?_⟩
  exact q2 (v :: vs) H2 Stp.refl m2.at_.en (fun _ h => h) m2.at_.dk (.cons (Dt.carry m.at_.bd m2.stp (fun a ha => .inl (m2.sub a ha)) r) r2)
theorem c_call (M : GmOk G P wd base k Γ) (c : Cxx G P wd base k N sc fa X W) {f : Str} {p : Pos} {es : List Expr} {ps : PXs} (hg : glB sc f = true) (hn : plainN f = true) (hs : PA X es (tDL G W (evs Γ ps))) (hst : es.all notStar = true) (hnil : es = [] → ps = .nil) :
    PE X (.Call (.Name f p) es [] pos) (tD G W (ev Γ (.call f ps))) := by
  refine ⟨fun pins s σ H Q I h => ?_⟩
  obtain ⟨Bd, ρ, w, a, q⟩ := h
  rw [ev_call] at q
  unfold callD at q
  cases ef : Γ.fn f with
  | none => rw [ef] at q; exact q.elim
  | some F =>
    rw [ef] at q
    obtain ⟨fad, h1, h2, h3, _⟩ := M.fn f F ef
    refine wpAny_Call_Name_kw (ld_glob I (c.gl hg) (by rw [c.mg]; exact h1) ?_ (plainN_of hn).1)
    have hk : PySem.W.keepIn X.K (.ref fad) = true := by rw [c.K]; exact h2
    have body : tDL G W (evs Γ ps) σ H fun vs H1 => ∃ ρ1 w1 ds, At G Bd ρ1 w1 σ H1 ∧ DtL G (okA Bd (owns ρ1 σ)) H1 ds vs ∧ PostE G W (Dt G) Bd ρ1 σ H1 ((F ds w1).at ρ1) Q :=
      ⟨Bd, ρ, w, a, PostE.bindL a q fun ds ρ1 w1 vs H1 m r q1 => ⟨ρ1, w1, ds, m.at_, r, q1⟩⟩
    cases es with
    | nil =>
      refine PySem.W.callWith_K0 I.kIn hk ?_
      cases hps : ps with
      | nil =>
        subst hps
        obtain ⟨Bd', ρ', w', a', q'⟩ := body
        rw [evs_nil] at q'
        obtain ⟨ρ1, w1, ds, a1, dl, q1⟩ := q' [] H Stp.refl a'.en (fun _ h => h) a'.dk rfl
        exact h3 X W c.toCxy pins s σ H [] [] Q _ _ _ ds I .nil a1 dl q1
      | cons p ps => exact absurd (hnil rfl) (by rw [hps]; intro z; cases z)
    | cons e es =>
      simp only [List.all_cons, Bool.and_eq_true] at hst
      refine PySem.W.callWith_K (h₀ := X.base) I.ok.mod.kin hk (thn (hs.run pos pins s σ H _ I body) fun us s1 ⟨vs, H1, I1, r, ρ1, w1, ds, a1, dl, q1⟩ => ⟨I1.kIn, ?_⟩) (starEach_of hst.1 _ _) (args_plain hst.2 _ _)
      exact h3 X W c.toCxy pins s1 σ H1 vs us Q _ _ _ ds I1 r a1 dl q1
/-! ### calls whose arguments are only looked at -/
def ZL (G : GC) (ok : Addr → Prop) (σ : L2.St) (H : Hp) : List (Nat ⊕ D) → List V → Prop
  | [], vs => vs = []
  | .inl i :: zs, vs => ∃ v r, vs = v :: r ∧ σ[i]? = some (some v) ∧ ZL G ok σ H zs r
  | .inr d :: zs, vs => ∃ v r, vs = v :: r ∧ Dt G ok H d v ∧ ZL G ok σ H zs r
def PostZ (G : GC) (W : WX) (Bd : Addr → Prop) (ρ0 : En) (σ : L2.St) (H : Hp) (r : R (List (Nat ⊕ D))) (Q : List V → Hp → Prop) : Prop := match r with
  | .ok zs ρ w => ∀ vs H', Stp G (owns ρ0 σ) H H' → EnD G Bd H' ρ σ → (∀ a ∈ owns ρ σ, a ∈ owns ρ0 σ) → DkD G H' w → ZL G (okA Bd (owns ρ σ)) σ H' zs vs → Q vs H'
  | .exc x ρ w => ∀ cls dd H', Stp G (owns ρ0 σ) H H' → EnD G Bd H' ρ σ → (∀ a ∈ owns ρ σ, a ∈ owns ρ0 σ) → DkD G H' w → ExD G (okA Bd (owns ρ σ)) H' x cls dd → W cls dd σ H'
  | .stuck => False
def tDZ (G : GC) (W : WX) (f : En → DW → R (List (Nat ⊕ D))) : TA := fun σ H Q => ∃ Bd ρ w, At G Bd ρ w σ H ∧ PostZ G W Bd ρ σ H (f ρ w) Q
theorem ZL.carry {A A' : List Addr} {H1 H2 : Hp} {σ : L2.St} {Bd : Addr → Prop} (hb : BdOk G Bd H1) (s : Stp G A H1 H2) (hA : ∀ a ∈ A', a ∈ A ∨ H1 a = none) : ∀ {zs : List (Nat ⊕ D)} {vs : List V}, ZL G (okA Bd A) σ H1 zs vs → ZL G (okA Bd A') σ H2 zs vs
  | [], _, h => h
  | .inl i :: zs, _, h => by
    obtain ⟨v, r, e, h1, h2⟩ := h
    exact ⟨v, r, e, h1, ZL.carry hb s hA h2⟩
  | .inr d :: zs, _, h => by
    obtain ⟨v, r, e, h1, h2⟩ := h
    exact ⟨v, r, e, Dt.carry hb s hA h1, ZL.carry hb s hA h2⟩
theorem pa_nilZ : PA X [] (tDZ G W (evsB Γ .nil)) := PA.weak pa_nil fun σ H Q ⟨Bd, ρ, w, a, q⟩ => by
  rw [evsB_nil] at q
  exact q [] H Stp.refl a.en (fun _ h => h) a.dk rfl
/-- the rest behind a first argument -/
theorem PostZ.cons {ρ0 ρ1 : En} {σ : L2.St} {H H1 : Hp} {Bd : Addr → Prop} {w1 : DW} {z : Nat ⊕ D} {r : R (List (Nat ⊕ D))} {Q : List V → Hp → Prop} {v : V} (a1 : At G Bd ρ1 w1 σ H1) (st : Stp G (owns ρ0 σ) H H1) (sb : ∀ a ∈ owns ρ1 σ, a ∈ owns ρ0 σ)
    (h : PostZ G W Bd ρ0 σ H (r.bind fun ds ρ w => .ok (z :: ds) ρ w) Q) (hz : ∀ A' H2, (∀ a ∈ A', a ∈ owns ρ1 σ) → Stp G (owns ρ1 σ) H1 H2 → ∀ zs vs, ZL G (okA Bd A') σ H2 zs vs → ZL G (okA Bd A') σ H2 (z :: zs) (v :: vs)) :
    PostZ G W Bd ρ1 σ H1 r fun vs H2 => Q (v :: vs) H2 := by
  cases r with
  | stuck => exact h
  | exc x ρ2 w2 => exact fun c dd H' s' en s2 dk q => h c dd H' (st.trans s' fun a ha => .inl (sb a ha)) en (fun a ha => sb a (s2 a ha)) dk q
  | ok zs ρ2 w2 => exact fun vs H' s' en s2 dk q => h (v :: vs) H' (st.trans s' fun a ha => .inl (sb a ha)) en (fun a ha => sb a (s2 a ha)) dk (hz _ H' s2 s' zs vs q)
theorem pa_consZ {e : Expr} {es : List Expr} {p : PX} {ps : PXs} (he : PE X e (tD G W (ev Γ p))) (hv : ∀ i, p.ix = some i → PE X e (tVar i)) (hs : PA X es (tDZ G W (evsB Γ ps))) (hst : notStar e = true) : PA X (e :: es) (tDZ G W (evsB Γ (.cons p ps))) := by
  cases e1 : p.ix with
  | some i =>
    refine PA.weak (pa_cons (hv i e1) hs (starEach_of hst _ _)) fun σ H Q ⟨Bd, ρ, w, a, q⟩ => ?_
    rw [evsB_cons] at q
    unfold argB at q
    rw [e1] at q
    cases e2 : rd ρ i with
    | none => simp only [e2] at q; exact q.elim
    | some d =>
      simp only [e2, Option.isSome_some, if_true] at q
      obtain ⟨v, h1, _⟩ := slot_b a e2
      exact ⟨v, h1, Bd, ρ, w, a, PostZ.cons a Stp.refl (fun _ h => h) q fun A' H2 _ _ zs vs hz => ⟨v, vs, rfl, h1, hz⟩⟩
  | none =>
    refine PA.weak (pa_cons he hs (starEach_of hst _ _)) fun σ H Q ⟨Bd, ρ, w, a, q⟩ => ?_
    rw [evsB_cons] at q
    unfold argB at q
    rw [e1] at q
    refine ⟨Bd, ρ, w, a, ?_⟩
    cases e2 : ev Γ p ρ w with
    | stuck => simp only [e2] at q; exact q
    | exc x ρ1 w1 => simp only [e2] at q; exact q
    | ok d ρ1 w1 =>
      simp only [e2] at q
      intro v H1 st en sb dk r
      have a1 : At G Bd ρ1 w1 σ H1 := a.step st en dk
      exact ⟨Bd, ρ1, w1, a1, PostZ.cons a1 st sb q fun A' H2 hA s2 zs vs hz => ⟨v, vs, rfl, Dt.carry a1.bd s2 (fun b hb => .inl (hA b hb)) r, hz⟩⟩
theorem fill_dt {Bd : Addr → Prop} {ρ : En} {w : DW} {σ : L2.St} {H : Hp} (a : At G Bd ρ w σ H) : ∀ {zs : List (Nat ⊕ D)} {ds : List D} {vs : List V}, fillD ρ zs = some ds → ZL G (okA Bd (owns ρ σ)) σ H zs vs → DtL G (fun b => ¬ Bd b) H ds vs
  | [], ds, vs, h, z => by
    cases h
    exact z
  | .inl i :: zs, ds, vs, h, z => by
    obtain ⟨v, r, e, h1, h2⟩ := z
    subst e
    rw [fillD] at h
    cases e1 : rd ρ i with
    | none => rw [e1] at h; cases h
    | some d =>
      cases e2 : fillD ρ zs with
      | none => rw [e1, e2] at h; cases h
      | some ds' =>
        rw [e1, e2] at h
        cases h
        obtain ⟨v', h3, h4⟩ := slot_b a e1
        rw [h1] at h3
        cases h3
        refine .cons ?_ (fill_dt a e2 h2)
        unfold rd at e1
        cases e3 : ρ[i]? with
        | none => rw [e3] at e1; cases e1
        | some sl =>
          rw [e3] at e1
          obtain ⟨o, ho, hs⟩ := a.en.sl.get e3
          rw [h1] at ho
          cases ho
          cases sl with
          | emp => cases e1
          | dat d' =>
            cases e1
            obtain ⟨v2, q1, q2⟩ := hs
            cases q1
            exact q2.mono (fun b o k e => ⟨k.1, e⟩) fun _ _ e => e
          | own d' =>
            cases e1
            obtain ⟨ad, q1, q2⟩ := hs
            cases q1
            exact (q2.mono (ok' := fun b => ¬ Bd b) (fun b o k e => ⟨k.1, e⟩) (fun _ _ e => e) rfl).toDt (a.en.nb ad (mem_owns e3 h1))
  | .inr d :: zs, ds, vs, h, z => by
    obtain ⟨v, r, e, h1, h2⟩ := z
    subst e
    rw [fillD] at h
    cases e2 : fillD ρ zs with
    | none => rw [e2] at h; cases h
    | some ds' =>
      rw [e2] at h
      cases h
      exact .cons (h1.mono (fun b o k e => ⟨k.1, e⟩) fun _ _ e => e) (fill_dt a e2 h2)
theorem c_callB (M : GmOk G P wd base k Γ) (c : Cxx G P wd base k N sc fa X W) {f : Str} {p : Pos} {e : Expr} {es : List Expr} {ps : PXs} (hg : glB sc f = true) (hn : plainN f = true) (hs : PA X (e :: es) (tDZ G W (evsB Γ ps))) (hst : (e :: es).all notStar = true) :
    PE X (.Call (.Name f p) (e :: es) [] pos) (tD G W (ev Γ (.callB f ps))) := by
  refine ⟨fun pins s σ H Q I h => ?_⟩
  obtain ⟨Bd, ρ, w, a, q⟩ := h
  rw [ev_callB] at q
  unfold callBD at q
  cases ef : Γ.fn f with
  | none => rw [ef] at q; exact q.elim
  | some F =>
    rw [ef] at q
    obtain ⟨fad, h1, h2, _, h3⟩ := M.fn f F ef
    refine wpAny_Call_Name_kw (ld_glob I (c.gl hg) (by rw [c.mg]; exact h1) ?_ (plainN_of hn).1)
    have hk : PySem.W.keepIn X.K (.ref fad) = true := by rw [c.K]; exact h2
    have body : tDZ G W (evsB Γ ps) σ H fun vs H1 => ∃ ρ1 w1 ds, At G Bd ρ1 w1 σ H1 ∧ DtL G (fun b => ¬ Bd b) H1 ds vs ∧ PostE G W (Dt G) Bd ρ1 σ H1 ((flatW (F ds w1)).at ρ1) Q := by
      refine ⟨Bd, ρ, w, a, ?_⟩
      have q : PostE G W (Dt G) Bd ρ σ H ((evsB Γ ps ρ w).bind fun zs ρ w => match fillD ρ zs with
        | some ds => (flatW (F ds w)).at ρ
        | none => .stuck) Q := q
      cases e2 : evsB Γ ps ρ w with
      | stuck => rw [e2] at q; exact q
      | exc x ρ1 w1 => rw [e2] at q; exact q
      | ok zs ρ1 w1 =>
        rw [e2] at q
        simp only [R.bind] at q
        intro vs H1 st en sb dk z
        have a1 : At G Bd ρ1 w1 σ H1 := a.step st en dk
        cases e3 : fillD ρ1 zs with
        | none => rw [e3] at q; exact q.elim
        | some ds =>
          rw [e3] at q
          exact ⟨ρ1, w1, ds, a1, fill_dt a1 e3 z, q.shift st sb⟩
    simp only [List.all_cons, Bool.and_eq_true] at hst
    refine PySem.W.callWith_K (h₀ := X.base) I.ok.mod.kin hk (thn (hs.run pos pins s σ H _ I body) fun us s1 ⟨vs, H1, I1, r, ρ1, w1, ds, a1, dl, q1⟩ => ⟨I1.kIn, ?_⟩) (starEach_of hst.1 _ _) (args_plain hst.2 _ _)
    exact h3 X W c.toCxy pins s1 σ H1 vs us Q _ _ _ ds I1 r a1 dl q1
/-! ### a < b < c -/
theorem c_chain {o p : CmpOp} {pa pb pc : PX} (M : GmOk G P wd base k Γ) (cx : Cxx G P wd base k N sc fa X W) (ha : PE X a (tD G W (ev Γ pa))) (hb : PE X b (tD G W (ev Γ pb))) (hc : PE X c (tD G W (ev Γ pc))) (hm : lastMarks [o, p] [b, c] = false) :
    PE X (.Compare a [o, p] [b, c] pos) (tD G W (ev Γ (.chain o p pa pb pc))) := by
  refine ⟨fun pins s σ H Q I ⟨Bd, ρ, w, at_, q⟩ => ?_⟩
  rw [ev_chain] at q
  have t1 : tD G W (ev Γ pa) σ H fun x H1 => tD G W (ev Γ pb) σ H1 fun y H2 => After2 G W (fun x y ρ w => (Γ.cmp o x y w).at ρ) σ x y H2 fun z H3 => ∃ t, z = .bl t ∧
      (if t = true then tD G W (ev Γ pc) σ H3 fun u H4 => After2 G W (fun x y ρ w => (Γ.cmp p x y w).at ρ) σ y u H4 Q else Q (.bl false) H3) := by
    refine ⟨Bd, ρ, w, at_, PostE.bind at_ q fun dx ρ1 w1 x H1 m1 r1 q1 => ?_⟩
    refine ⟨Bd, ρ1, w1, m1.at_, PostE.bind m1.at_ q1 fun dy ρ2 w2 y H2 m2 r2 q2 => ?_⟩
    refine ⟨Bd, ρ2, w2, dx, dy, m2.at_, (Dt.carry m1.at_.bd m2.stp (fun a ha => .inl (m2.sub a ha)) r1).toB, r2.toB, PostE.bind (relA := Dt G) m2.at_ q2 fun dz ρ3 w3 z H3 m3 r3 q3 => ?_⟩
    cases dz with
    | bl t =>
      refine ⟨t, r3, ?_⟩
      cases t with
      | false =>
        simp only [chainD] at q3
        rw [if_neg Bool.false_ne_true]
        exact q3 _ H3 Stp.refl m3.at_.en (fun _ h => h) m3.at_.dk rfl
      | true =>
        simp only [chainD] at q3
        rw [if_pos rfl]
        refine ⟨Bd, ρ3, w3, m3.at_, PostE.bind m3.at_ q3 fun du ρ4 w4 u H4 m4 r4 q4 => ?_⟩
        refine ⟨Bd, ρ4, w4, dy, du, m4.at_, (Dt.carry m3.at_.bd m4.stp (fun a ha => .inl (m4.sub a ha)) (Dt.carry m2.at_.bd m3.stp (fun a ha => .inl (m3.sub a ha)) r2)).toB, r4.toB, q4⟩
    | _ => simp only [chainD] at q3; exact q3.elim
  refine Compare_chain (thn (ha.run pins s σ H _ I t1) fun v s1 ⟨x, H1, I1, rx, t2⟩ => chain_link (thn (hb.run pins s1 σ H1 _ I1 t2) fun u s2 ⟨y, H2, I2, ry, t3⟩ =>
    thn (M.cmp X W cx.toCxy o pins s2 σ H2 x y v u _ I2 rx ry t3) fun d s3 ⟨z, H3, I3, rz, t, ez, t4⟩ => ?_)) hm
  subst ez
  cases (show d = Value.bool t from rz)
  refine wpAny_truthy_bool ?_
  cases t with
  | false =>
    rw [if_neg Bool.false_ne_true] at t4
    exact ite_ff ⟨.bl false, H3, I3, rfl, t4⟩
  | true =>
    rw [if_pos rfl] at t4
    exact ite_tt (chain_last (thn (hc.run pins s3 σ H3 _ I3 t4) fun w' s4 ⟨z', H4, I4, r4, t5⟩ => M.cmp X W cx.toCxy p pins s4 σ H4 y z' u w' Q I4 ry r4 t5))
/-! ### e[::-1] -/
theorem c_rev {pa : PX} {j : Nat} {p1 p2 p3 : Pos} (M : GmOk G P wd base k Γ) (cx : Cxx G P wd base k N sc fa X W) (ha : PE X a (tDB G W (brw pa (ev Γ pa)))) : PE X (.Subscript a (.Slice none none (some (.UnaryOp .USub (.Constant (.int 1) j p1) p2)) p3) pos) (tD G W (ev Γ (.rev pa))) := by
  refine PE.weak (pe_revA ha) fun σ H Q h => ?_
  rw [ev_rev] at h
  obtain ⟨Bd, ρ, w, at_, q⟩ := brw_split h
  refine ⟨Bd, ρ, w, at_, ?_⟩
  cases ee : brw pa (ev Γ pa) ρ w with
  | stuck => rw [ee] at q; exact q
  | exc x ρ1 w1 => rw [ee] at q; exact q
  | ok d ρ1 w1 =>
    rw [ee] at q
    intro v H1 s1 en sb dk r
    obtain ⟨Bd2, ρ2, w2, d2, a2, r2, q2⟩ := q v H1 s1 en sb dk r
    cases er' : Γ.rev d2 with
    | none => simp only [er', R.of] at q2; exact q2.elim
    | some y =>
      simp only [er', R.of] at q2
      have fr : ∀ {p : Addr}, H1 p = none → okA Bd2 (owns ρ2 σ) p := fun hp => fresh_ok a2 hp
      rcases M.rev d2 y er' with ⟨xs, e1, e2⟩ | ⟨xs, e1, e2⟩
      · subst e1 e2
        obtain ⟨b, e3, vs, e4, e5⟩ := r2
        refine ⟨b, vs, e3, .inl ⟨.inl (.inl e4), fun p hp => PostE.next a2 q2 (Ext.new hp) ⟨p, vs.reverse, rfl, fr hp, upd_same, (e5.reverse).ext (Ext.new hp)⟩⟩⟩
      · subst e1 e2
        obtain ⟨b, vs, e3, e4, e5⟩ := r2
        refine ⟨b, vs, e3, .inr ⟨by rw [cx.K]; exact e4.elim (fun z => .inl (.inl z)) fun z => z.1 _, fun p hp => PostE.next a2 q2 (Ext.new hp) ⟨p, vs.reverse, rfl, .inl upd_same, (e5.reverse).ext (Ext.new hp)⟩⟩⟩
/-! ### f(k = e, ..) -/
inductive PKs (X : Cx) (G : GC) (W : WX) : List Keyword → List Str → List (En → DW → R D) → Prop where
  | nil : PKs X G W [] [] []
  | cons {e : Expr} {f : En → DW → R D} {x : Str} {kp : Pos} {kws : List Keyword} {ks : List Str} {fs : List (En → DW → R D)} (h : PE X e (tD G W f)) (r : PKs X G W kws ks fs) : PKs X G W (⟨some x, e, kp⟩ :: kws) (x :: ks) (f :: fs)
theorem PKs.pk {kws : List Keyword} {ks : List Str} {fs : List (En → DW → R D)} (h : PKs X G W kws ks fs) : PK X kws (tDL G W (seqL fs)) := by
  have wk : ∀ {kws : List Keyword} {t t' : TA}, PK X kws t → (∀ σ H Q, t' σ H Q → t σ H Q) → PK X kws t' := fun h hw => ⟨fun pos pins s σ H Q I q => h.run pos pins s σ H Q I (hw σ H Q q)⟩
  induction h with
  | nil => exact wk pk_nil fun σ H Q ⟨Bd, ρ, w, a, q⟩ => q [] H Stp.refl a.en (fun _ h => h) a.dk rfl
  | cons h r ih =>
    refine wk (pk_cons h ih) fun σ H Q ⟨Bd, ρ, w, a, q⟩ => ?_
    refine ⟨Bd, ρ, w, a, PostL.bind a q fun d ρ1 w1 v H1 m r q1 => ?_⟩
    refine ⟨Bd, ρ1, w1, m.at_, PostL.bindL m.at_ q1 fun ds ρ2 w2 vs H2 m2 r2 q2 => ?_⟩
    exact q2 (v :: vs) H2 Stp.refl m2.at_.en (fun _ h => h) m2.at_.dk (.cons (Dt.carry m.at_.bd m2.stp (fun a ha => .inl (m2.sub a ha)) r) r2)
theorem PKs.names {kws : List Keyword} {ks : List Str} {fs : List (En → DW → R D)} (h : PKs X G W kws ks fs) (pos : Pos) : (backToKw pos (keywordEach kws X.env)).all (·.1.isSome) = true ∧ (backToKw pos (keywordEach kws X.env)).filterMap (·.1) = ks ∧ (backToKw pos (keywordEach kws X.env)).any (·.1.isNone) = false := by
  induction h with
  | nil => exact ⟨rfl, rfl, rfl⟩
  | @cons e f x kp kws ks fs h r ih =>
    have e1 : ∃ t, backToKw pos (keywordEach (⟨some x, e, kp⟩ :: kws) X.env) = (some x, t) :: backToKw pos (keywordEach kws X.env) := ⟨_, rfl⟩
    obtain ⟨t, e1⟩ := e1
    rw [e1]
    refine ⟨?_, ?_, ?_⟩
    · rw [List.all_cons, ih.1]; rfl
    · rw [List.filterMap_cons]
      simp only [ih.2.1]
    · rw [List.any_cons, ih.2.2]; rfl
theorem c_callK (M : GmOk G P wd base k Γ) (cx : Cxx G P wd base k N sc fa X W) {f : Str} {p : Pos} {kws : List Keyword} {ks : List Str} {ps : PXs} (hg : glB sc f = true) (hn : plainN f = true) (hs : PKs X G W kws ks (ps.list.map (ev Γ))) :
    PE X (.Call (.Name f p) [] kws pos) (tD G W (ev Γ (.callK f .nil ks ps))) := by
  refine ⟨fun pins s σ H Q I h => ?_⟩
  obtain ⟨Bd, ρ, w, a, q⟩ := h
  rw [ev_callK] at q
  unfold callKD at q
  rw [evs_nil, evs_seq] at q
  cases ef : Γ.fn f with
  | none => rw [ef] at q; exact q.elim
  | some F =>
    rw [ef] at q
    have q : PostE G W (Dt G) Bd ρ σ H ((seqL (ps.list.map (ev Γ)) ρ w).bind fun us ρ w => match Γ.ki f [] ks us with
      | some ds => (F ds w).at ρ
      | none => .stuck) Q := q
    obtain ⟨n1, n2, n3⟩ := hs.names pos
    -- the def is known ahead of its arguments
    have hb : (∃ us ds, Γ.ki f [] ks us = some ds) ∨ ∀ us, Γ.ki f [] ks us = none := by
      by_cases z : ∃ us ds, Γ.ki f [] ks us = some ds
      · exact .inl z
      · refine .inr fun us => ?_
        cases e : Γ.ki f [] ks us with
        | none => rfl
        | some ds => exact absurd ⟨us, ds, e⟩ z
    rcases hb with ⟨us0, ds0, e0⟩ | hb
    · obtain ⟨fad, h1, h2, h3⟩ := M.fnK f F ks us0 ds0 ef e0
      refine wpAny_Call_Name_kw (ld_glob I (cx.gl hg) (by rw [cx.mg]; exact h1) ?_ (plainN_of hn).1)
      have hk : PySem.W.keepIn X.K (.ref fad) = true := by rw [cx.K]; exact h2
      refine PySem.W.callWith_KW0 (h₀ := X.base) I.ok.mod.kin hk n1 ?_ (by rw [n3]; rfl)
      have body : tDL G W (seqL (ps.list.map (ev Γ))) σ H fun vs H1 => ∃ ρ1 w1 ds, At G Bd ρ1 w1 σ H1 ∧ DtL G (okA Bd (owns ρ1 σ)) H1 ds vs ∧ PostE G W (Dt G) Bd ρ1 σ H1 ((kiF Γ f F ks ds w1).at ρ1) Q := by
        refine ⟨Bd, ρ, w, a, PostE.bindL a q fun ds ρ1 w1 vs H1 m r q1 => ⟨ρ1, w1, ds, m.at_, r, ?_⟩⟩
        unfold kiF
        cases e : Γ.ki f [] ks ds with
        | none => rw [e] at q1; exact q1.elim
        | some ds' => rw [e] at q1; exact q1
      refine thn (hs.pk.run pos pins s σ H _ I body) fun us s1 ⟨vs, H1, I1, r, ρ1, w1, ds, a1, dl, q1⟩ => ⟨I1.kIn, ?_⟩
      rw [n2]
      exact h3 X W cx.toCxy pins s1 σ H1 vs us Q _ _ _ ds I1 r a1 dl q1
    · obtain ⟨fad, h1, h2, _, _⟩ := M.fn f F ef
      refine wpAny_Call_Name_kw (ld_glob I (cx.gl hg) (by rw [cx.mg]; exact h1) ?_ (plainN_of hn).1)
      have hk : PySem.W.keepIn X.K (.ref fad) = true := by rw [cx.K]; exact h2
      refine PySem.W.callWith_KW0 (h₀ := X.base) I.ok.mod.kin hk n1 ?_ (by rw [n3]; rfl)
      have body : tDL G W (seqL (ps.list.map (ev Γ))) σ H fun _ _ => False := ⟨Bd, ρ, w, a, PostE.bindL a q fun ds ρ1 w1 vs H1 m r q1 => by
        rw [hb ds] at q1
        exact q1⟩
      exact thn (hs.pk.run pos pins s σ H _ I body) fun us s1 ⟨vs, H1, I1, r, z⟩ => z.elim
/-- a def called by names: the parameters' order is a permutation of the names' -/
def perm {α : Type} (is : List Nat) (ws : List α) : List α := is.filterMap (ws[·]?)
theorem DtL.perm {ok : Addr → Prop} {H : Hp} {ds : List D} {vs : List V} (h : DtL G ok H ds vs) : ∀ is : List Nat, DtL G ok H (DL.perm is ds) (DL.perm is vs)
  | [] => rfl
  | i :: is => by
    have ih := DtL.perm h is
    unfold DL.perm at ih ⊢
    rw [List.filterMap_cons, List.filterMap_cons]
    cases e : vs[i]? with
    | none =>
      have : ds[i]? = none := by
        rw [List.getElem?_eq_none_iff] at e ⊢
        rw [h.length]
        exact e
      rw [this]
      exact ih
    | some v =>
      obtain ⟨d, e1, e2⟩ := h.get e
      rw [e1]
      exact .cons e2 ih
theorem FnD.calK {f : Addr} {fd : FuncData} {ps ks : List Str} {F : Fn} {is : List Nat} (h : FnD G P wd base k f fd ps F) (hb : KBinds G.K fd ps ks (fun _ ws => DL.perm is ws) (fun _ zs => DL.perm is zs)) : CalK G P wd base k (.ref f) ks (fun us w => F (DL.perm is us) w) := by
  rintro X W c pins s σ H vs us Q Bd ρ w as I r a hv q
  have q' : PostC G (BdC Bd (owns ρ σ)) H (F (DL.perm is as) w) Q (fun cls dd H' => W cls dd σ H') := PostC.ofE a q
  have r2 : Vals (DL.perm is vs) (DL.perm is us) := hb.rel (vs := []) (us := []) .nil r
  have hl : (DL.perm is us).length = ps.length := by
    rw [← r2.length, ← h.len (DL.perm is as) w (fun z => by rw [z] at q'; exact q'), ((hv.perm is)).length]
  have e0 := I.env0
  rw [c.K, c.mg, c.prog, c.w, c.base] at e0
  have kin := I.kIn
  rw [c.K] at kin
  have run := h.run X.A X.stack s H ⟨[], ks.zip us⟩ (DL.perm is us) (DL.perm is vs) Q (fun cls dd H' => W cls dd σ H') _ (DL.perm is as) w c.gd c.room e0 (hb.to s [] us kin hl) r2 a.callee a.dk ((bdC_okL hv).perm is) q'
  rw [← c.prog, ← c.w] at run
  refine wpAny_call (codeAny_mono run fun r s' hq => ?_)
  cases r with
  | error e => exact c.tk e s' (XE.of_call I (fun _ _ _ h => h) hq)
  | ok fl =>
    cases fl with
    | ret u => exact I.after hq
    | next => exact False.elim hq
    | brk => exact False.elim hq
    | cont => exact False.elim hq
/-! ### e + [..], a new list -/
theorem PostF.bind {relA : RelD} {r : R D} {k : D → En → DW → R D} {N : VK} {Bd : Addr → Prop} {ρ : En} {w : DW} {σ : L2.St} {H : Hp} {Q : VK} (at_ : At G Bd ρ w σ H) (h : PostF G W Bd ρ σ H (r.bind k) Q)
    (hk : ∀ d ρ1 w1 v H1, r = .ok d ρ1 w1 → Mid G Bd ρ ρ1 w1 σ H H1 → relA (okA Bd (owns ρ1 σ)) H1 d v → PostF G W Bd ρ1 σ H1 (k d ρ1 w1) Q → N v H1) : PostE G W relA Bd ρ σ H r N := by
  cases r with
  | ok d ρ1 w1 => exact fun v H1 s en sb dk q => hk d ρ1 w1 v H1 rfl ⟨at_.step s en dk, s, sb⟩ q (h.shift s sb)
  | exc x ρ1 w1 => exact h
  | stuck => exact h
def After2F (G : GC) (W : WX) (k : D → D → En → DW → R D) (σ : L2.St) (x y : V) (H : Hp) (Q : VK) : Prop :=
  ∃ Bd ρ w dx ys, At G Bd ρ w σ H ∧ DtB G (okA Bd (owns ρ σ)) H dx x ∧ DtB G (okA Bd (owns ρ σ)) H (.lst ys) y ∧ PostF G W Bd ρ σ H (k dx (.lst ys) ρ w) Q
theorem two_splitF {pa : PX} {fa fb : En → DW → R D} {k : D → D → En → DW → R D} {σ : L2.St} {H : Hp} {Q : VK} (hl : ∀ ρ w d ρ' w', fb ρ w = .ok d ρ' w' → ∃ ys, d = .lst ys) (h : tDF G W (two pa fa fb k) σ H Q) :
    tA G W pa fa σ H fun x H1 => tDB G W fb σ H1 fun y H2 => After2F G W k σ x y H2 Q := by
  obtain ⟨Bd, ρ, w, at_, q⟩ := h
  unfold tA
  unfold two at q
  cases e1 : pa.ix with
  | none =>
    rw [e1] at q
    refine ⟨Bd, ρ, w, at_, PostF.bind at_ q fun d ρ1 w1 v H1 _ m r q1 => ?_⟩
    refine ⟨Bd, ρ1, w1, m.at_, PostF.bind m.at_ q1 fun d2 ρ2 w2 v2 H2 e m2 r2 q2 => ?_⟩
    obtain ⟨ys, rfl⟩ := hl _ _ _ _ _ e
    exact ⟨Bd, ρ2, w2, d, ys, m2.at_, (Dt.carry m.at_.bd m2.stp (fun a ha => .inl (m2.sub a ha)) r).toB, r2, q2⟩
  | some i =>
    rw [e1] at q
    cases e0 : rd ρ i with
    | none => simp only [e0] at q; exact q.elim
    | some d0 =>
      simp only [e0, Option.isSome_some, if_true] at q
      obtain ⟨v, hv, _⟩ := slot_b at_ e0
      refine ⟨v, hv, Bd, ρ, w, at_, PostF.bind at_ q fun d ρ1 w1 v1 H1 e m r q1 => ?_⟩
      cases e2 : rd ρ1 i with
      | none => simp only [e2] at q1; exact q1.elim
      | some d2 =>
        simp only [e2] at q1
        obtain ⟨v', h1, h2⟩ := slot_b m.at_ e2
        rw [hv] at h1
        cases h1
        obtain ⟨ys, rfl⟩ := hl _ _ _ _ _ e
        exact ⟨Bd, ρ1, w1, d2, ys, m.at_, h2, r, q1⟩
theorem ev_lst_is {es : PXs} {ρ ρ' : En} {w w' : DW} {d : D} (h : ev Γ (.lst es) ρ w = .ok d ρ' w') : ∃ ys, d = .lst ys := by
  rw [ev_lst] at h
  cases e : evs Γ es ρ w with
  | stuck => rw [e] at h; cases h
  | exc _ _ _ => rw [e] at h; cases h
  | ok ds ρ1 w1 =>
    rw [e] at h
    simp only [R.bind] at h
    split at h
    · cases h
      exact ⟨_, rfl⟩
    · cases h
theorem c_catF (M : GmOk G P wd base k Γ) {pa : PX} {es : PXs} (ha : PE X a (tA G W pa (ev Γ pa))) (hb : PE X b (tDB G W (ev Γ (.lst es)))) : PE X (.BinOp a .Add b pos) (tDF G W (ev Γ (.bin .Add pa (.lst es)))) := by
  refine ⟨fun pins s σ H Q I h => ?_⟩
  rw [ev_bin] at h
  have h : tDF G W (two pa (ev Γ pa) (ev Γ (.lst es)) (fun x y ρ w => (Γ.bin .Add x y w).at ρ)) σ H Q := h
  refine wpAny_BinOp (binT ha hb I (two_splitF (fun _ _ _ _ _ e => ev_lst_is e) h) fun v u s2 x y H2 I2 rx ry q => ?_)
  obtain ⟨Bd, ρ, w, dx, ys, at_, hx, hy, q⟩ := q
  replace q : PostF G W Bd ρ σ H2 ((Γ.bin .Add dx (.lst ys) w).at ρ) Q := q
  rcases M.cat dx ys w with e | ⟨xs, e1, e2, hz⟩
  · rw [e] at q
    exact q.elim
  · rw [e2] at q
    subst e1
    obtain ⟨l, f1, vs, f2, f3⟩ := hx
    obtain ⟨b', g1, us, g2, g3⟩ := hy
    refine op_cat pins s2 σ H2 x y v u Q I2 rx ry ⟨l, b', vs, us, f1, g1, f2, g2, by rw [← f3.length, ← g3.length]; exact hz, fun p hp => q p H2 _ Stp.refl at_.en (fun _ h => h) at_.dk hp (Ext.new hp) ?_⟩
    refine ⟨vs ++ us, upd_same, (f3.append g3).mono (fun b o k e => ⟨⟨k, fun z => ?_⟩, Ext.new hp b o e⟩) fun b xs e => Ext.new hp b _ e⟩
    rw [z, hp] at e
    cases e
end
end DL
set_option maxRecDepth 100000
set_option maxHeartbeats 2000000
set_option linter.all false
namespace DL
open PySem PySem.Spec PyProof.Rows L2
section
variable {G : GC} {P : Program} {wd : World} {base : Heap} {k : Nat} {N : List Str} {sc : Scope} {fa : Bool} {X : Cx} {W : WX} {Γ : Gm} {a b c : Expr} {pos : Pos}
theorem Op1.of_pure {f : Value → Sem Value} {F : D → Option D} (h : ∀ (pins : List (Addr × Obj)) (s : Shared) (σ : L2.St) (H : Hp) (x : V) (u : Value) (Q : VK), Inv X pins σ H s → RelV x u → Pure1 G F x H Q → wpAny (model X.prog X.w) X.A (f u) (EP X pins σ Q) X.xe s) :
    Op1 G X W f (fun x w => match F x with | some d => .ok d w | none => .stuck) := by
  rintro pins s σ H x u Q I rx ⟨Bd, ρ, w, dx, a, hx, q⟩
  cases e : F dx with
  | none => simp only [e, RW.at] at q; exact q.elim
  | some d =>
    simp only [e, RW.at] at q
    exact h pins s σ H x u Q I rx ⟨_, dx, d, hx, e, fun b hb => fresh_ok a hb, fun v H' e r => PostE.next a q e r⟩
theorem after1_pure {F : D → Option D} {σ : L2.St} {x : V} {H : Hp} {Q : VK} (h : After1 G W (fun x ρ w => R.of (F x) ρ w) σ x H Q) : Pure1 G F x H Q := by
  obtain ⟨Bd, ρ, w, dx, a, hx, q⟩ := h
  cases e : F dx with
  | none => simp only [e, R.of] at q; exact q.elim
  | some d =>
    simp only [e, R.of] at q
    exact ⟨_, dx, d, hx, e, fun b hb => fresh_ok a hb, fun v H' e r => PostE.next a q e r⟩
/-- -a -/
theorem c_neg {pa : PX} (ho : ∀ (pins : List (Addr × Obj)) (s : Shared) (σ : L2.St) (H : Hp) (x : V) (u : Value) (Q : VK), Inv X pins σ H s → RelV x u → Pure1 G Γ.neg x H Q → wpAny (model X.prog X.w) X.A (unaryOp .USub u) (EP X pins σ Q) X.xe s) (ha : PE X a (tD G W (ev Γ pa))) :
    PE X (.UnaryOp .USub a pos) (tD G W (ev Γ (.neg pa))) := by
  refine ⟨fun pins s σ H Q I h => ?_⟩
  obtain ⟨Bd, ρ, w, a0, q⟩ := h
  rw [ev_neg] at q
  refine UnaryOp_ (thn (ha.run pins s σ H _ I ⟨Bd, ρ, w, a0, PostE.bind a0 q fun d ρ1 w1 v H1 m r q1 => (after1_pure ⟨Bd, ρ1, w1, d, m.at_, Dt.toB r, q1⟩ : Pure1 G Γ.neg v H1 Q)⟩) fun v s1 ⟨x, H1, I1, r1, q1⟩ => ho pins s1 σ H1 x v Q I1 r1 q1)
theorem c_nt {pa : PX} (M : GmOk G P wd base k Γ) (c : Cxx G P wd base k N sc fa X W) (ha : PE X a (tDB G W (brw pa (ev Γ pa)))) : PE X (.UnaryOp .Not a pos) (tD G W (ev Γ (.nt pa))) := by
  refine ⟨fun pins s σ H Q I h => ?_⟩
  rw [ev_nt] at h
  refine UnaryOp_ (thn (ha.run pins s σ H _ I (brw_split h)) fun v s1 ⟨x, H1, I1, r1, q1⟩ => ?_)
  obtain ⟨Bd, ρ, w, d, a1, r, q⟩ := q1
  cases e : Γ.tru d with
  | none => simp only [e, R.of, Option.map_none] at q; exact q.elim
  | some t =>
    simp only [e, R.of, Option.map_some] at q
    exact not_of (thn (M.tru X W c.toCxy pins s1 σ H1 x v (fun b H2 => Q (.bl (!b)) H2) _ d t I1 r1 r e (PostE.here a1 q rfl)) fun b s2 ⟨H2, I2, q2⟩ => ⟨.bl (!b), H2, I2, rfl, q2⟩)
theorem c_and {pa pb : PX} {rest : List Expr} (M : GmOk G P wd base k Γ) (c : Cxx G P wd base k N sc fa X W) (ha : PE X a (tD G W (ev Γ pa))) (hb : PE X (.BoolOp .And (b :: rest) pos) (tD G W (ev Γ pb))) : PE X (.BoolOp .And (a :: b :: rest) pos) (tD G W (ev Γ (.and pa pb))) := by
  refine ⟨fun pins s σ H Q I h => ?_⟩
  obtain ⟨Bd, ρ, w, a0, q⟩ := h
  rw [ev_and] at q
  refine BoolOp_and (thn (ha.run pins s σ H _ I ⟨Bd, ρ, w, a0, PostE.bind a0 q fun d ρ1 w1 v H1 m r q1 =>
    (⟨ρ1, w1, d, m.at_, r, q1⟩ : ∃ ρ1 w1 d, At G Bd ρ1 w1 σ H1 ∧ Dt G (okA Bd (owns ρ1 σ)) H1 d v ∧ PostE G W (Dt G) Bd ρ1 σ H1 (andD (Γ.tru d) d (ev Γ pb) ρ1 w1) Q)⟩) fun v s1 ⟨x, H1, I1, r1, ρ1, w1, d, a1, r, q1⟩ => ?_)
  unfold andD at q1
  cases e : Γ.tru d with
  | none => simp only [e] at q1; exact q1.elim
  | some t =>
    refine thn (M.tru X W c.toCxy pins s1 σ H1 x v (fun b H2 => b = t ∧ H2 = H1) _ d t I1 r1 r.toB e ⟨rfl, rfl⟩) fun b s2 ⟨H2, I2, e1, e2⟩ => ?_
    subst e2 e1
    cases b with
    | true =>
      simp only [e] at q1
      exact hb.run pins s2 σ H2 Q I2 ⟨Bd, ρ1, w1, a1, q1⟩
    | false =>
      simp only [e] at q1
      exact ⟨x, H2, I2, r1, PostE.here a1 q1 r⟩
theorem c_or {pa pb : PX} {rest : List Expr} (M : GmOk G P wd base k Γ) (c : Cxx G P wd base k N sc fa X W) (ha : PE X a (tD G W (ev Γ pa))) (hb : PE X (.BoolOp .Or (b :: rest) pos) (tD G W (ev Γ pb))) : PE X (.BoolOp .Or (a :: b :: rest) pos) (tD G W (ev Γ (.or pa pb))) := by
  refine ⟨fun pins s σ H Q I h => ?_⟩
  obtain ⟨Bd, ρ, w, a0, q⟩ := h
  rw [ev_or] at q
  refine BoolOp_or (thn (ha.run pins s σ H _ I ⟨Bd, ρ, w, a0, PostE.bind a0 q fun d ρ1 w1 v H1 m r q1 =>
    (⟨ρ1, w1, d, m.at_, r, q1⟩ : ∃ ρ1 w1 d, At G Bd ρ1 w1 σ H1 ∧ Dt G (okA Bd (owns ρ1 σ)) H1 d v ∧ PostE G W (Dt G) Bd ρ1 σ H1 (orD (Γ.tru d) d (ev Γ pb) ρ1 w1) Q)⟩) fun v s1 ⟨x, H1, I1, r1, ρ1, w1, d, a1, r, q1⟩ => ?_)
  unfold orD at q1
  cases e : Γ.tru d with
  | none => simp only [e] at q1; exact q1.elim
  | some t =>
    refine thn (M.tru X W c.toCxy pins s1 σ H1 x v (fun b H2 => b = t ∧ H2 = H1) _ d t I1 r1 r.toB e ⟨rfl, rfl⟩) fun b s2 ⟨H2, I2, e1, e2⟩ => ?_
    subst e2 e1
    cases b with
    | false =>
      simp only [e] at q1
      exact hb.run pins s2 σ H2 Q I2 ⟨Bd, ρ1, w1, a1, q1⟩
    | true =>
      simp only [e] at q1
      exact ⟨x, H2, I2, r1, PostE.here a1 q1 r⟩
theorem c_ife {pc pa pb : PX} (hc : PT X c (tDT G W (evT Γ pc))) (ha : PE X a (tD G W (ev Γ pa))) (hb : PE X b (tD G W (ev Γ pb))) : PE X (.IfExp c a b pos) (tD G W (ev Γ (.ife pc pa pb))) := by
  refine PE.weak (pe_ifExp hc ha hb) fun σ H Q ⟨Bd, ρ, w, a0, q⟩ => ?_
  rw [ev_ife] at q
  refine ⟨Bd, ρ, w, a0, PostE.bindT a0 q fun t ρ1 w1 H1 m q1 => ?_⟩
  cases t with
  | true => exact ⟨Bd, ρ1, w1, m.at_, q1⟩
  | false => exact ⟨Bd, ρ1, w1, m.at_, q1⟩
theorem c_tup {es : List Expr} {ps : PXs} {x1 : Nat} (h : PA X es (tDL G W (evs Γ ps))) : PE X (.Tuple es x1 pos) (tD G W (ev Γ (.tup ps))) := by
  refine PE.weak (pe_tup h) fun σ H Q ⟨Bd, ρ, w, a0, q⟩ => ?_
  rw [ev_tup] at q
  refine ⟨Bd, ρ, w, a0, PostE.bindL a0 q fun ds ρ1 w1 vs H1 m r q1 => ?_⟩
  by_cases hl : ds.length ≤ 100000
  · rw [if_pos hl] at q1
    refine ⟨by rw [← r.length]; exact Nat.le_trans hl (by decide), fun p hp => PostE.next m.at_ q1 (Ext.new hp) ?_⟩
    exact ⟨p, vs, rfl, .inl upd_same, r.ext (Ext.new hp)⟩
  · rw [if_neg hl] at q1
    exact q1.elim
theorem c_lstF {es : List Expr} {ps : PXs} (h : PA X es (tDL G W (evs Γ ps))) : PE X (.List es pos) (tDF G W (ev Γ (.lst ps))) := by
  refine PE.weak (pe_lst h) fun σ H Q ⟨Bd, ρ, w, a0, q⟩ => ?_
  rw [ev_lst] at q
  refine ⟨Bd, ρ, w, a0, PostF.bindL a0 q fun ds ρ1 w1 vs H1 m r q1 => ?_⟩
  by_cases hl : ds.length ≤ 100000
  · rw [if_pos hl] at q1
    refine ⟨by rw [← r.length]; exact Nat.le_trans hl (by decide), fun p hp => q1 p H1 _ Stp.refl m.at_.en (fun _ h => h) m.at_.dk hp (Ext.new hp) ?_⟩
    refine ⟨vs, upd_same, r.mono (fun b o k e => ⟨⟨k, fun z => ?_⟩, Ext.new hp b o e⟩) fun b xs e => Ext.new hp b _ e⟩
    rw [z, hp] at e
    cases e
  · rw [if_neg hl] at q1
    exact q1.elim
theorem c_ofF {e : Expr} {f : En → DW → R D} (h : PE X e (tDF G W f)) : PE X e (tD G W f) := PE.weak h fun σ H Q ⟨Bd, ρ, w, a0, q⟩ => ⟨Bd, ρ, w, a0, PostE.ofF a0 q⟩
theorem c_imp {e : Expr} {f : En → DW → R D} (h : PE X e (tD G W f)) : PE X e (tDB G W f) := PE.weak h fun σ H Q ⟨Bd, ρ, w, a0, q⟩ => ⟨Bd, ρ, w, a0, q.imp fun _ _ _ _ z => z.toB⟩
/-! ### tests -/
theorem t_val {p : PX} (M : GmOk G P wd base k Γ) (c : Cxx G P wd base k N sc fa X W) (hs : simpT p = true) (ha : PE X a (tDB G W (brw p (ev Γ p)))) (hp : plainT a = true) : PT X a (tDT G W (evT Γ p)) := by
  refine ⟨fun pins s σ H Q I h => ?_⟩
  obtain ⟨Bd, ρ, w, a0, q⟩ := h
  rw [evT_val hs] at q
  refine isTrue_plain (thn (ha.run pins s σ H _ I ⟨Bd, ρ, w, a0, PostT.bind a0 q fun d ρ1 w1 v H1 m r q1 =>
    (⟨ρ1, w1, d, m.at_, r, q1⟩ : ∃ ρ1 w1 d, At G Bd ρ1 w1 σ H1 ∧ DtB G (okA Bd (owns ρ1 σ)) H1 d v ∧ PostT G W Bd ρ1 σ H1 (R.of (Γ.tru d) ρ1 w1) Q)⟩) fun v s1 ⟨x, H1, I1, r1, ρ1, w1, d, a1, r, q1⟩ => ?_) (isTrue_of hp _ _)
  cases e : Γ.tru d with
  | none => simp only [e, R.of] at q1; exact q1.elim
  | some t =>
    simp only [e, R.of] at q1
    exact M.tru X W c.toCxy pins s1 σ H1 x v Q _ d t I1 r1 r e (q1 H1 Stp.refl a1.en (fun _ h => h) a1.dk)
theorem t_cmp {o : CmpOp} {pa pb : PX} (M : GmOk G P wd base k Γ) (c : Cxx G P wd base k N sc fa X W) (ha : PE X a (tA G W pa (ev Γ pa))) (hb : PE X b (tDB G W (brw pb (ev Γ pb)))) (hm : behindInMarks o b = false) : PT X (.Compare a [o] [b] pos) (tDT G W (evT Γ (.cmp o pa pb))) := by
  refine ⟨fun pins s σ H Q I h => ?_⟩
  obtain ⟨Bd, ρ, w, a0, q⟩ := h
  rw [evT_val rfl] at q
  -- the wish of the value
  have hv : tD G W (ev Γ (.cmp o pa pb)) σ H (fun v H1 => ∃ ρ1 w1 d, At G Bd ρ1 w1 σ H1 ∧ DtB G (okA Bd (owns ρ1 σ)) H1 d v ∧ PostT G W Bd ρ1 σ H1 (R.of (Γ.tru d) ρ1 w1) Q) :=
    ⟨Bd, ρ, w, a0, PostT.bind (relA := Dt G) a0 q fun d ρ1 w1 v H1 m r q1 => ⟨ρ1, w1, d, m.at_, r.toB, q1⟩⟩
  rw [ev_cmp] at hv
  refine wpAny_isTrue_Compare1 (thn (ha.run pins s σ H _ I (two_split hv)) fun v s1 ⟨x, H1, I1, r1, q1⟩ => thn (hb.run pins s1 σ H1 _ I1 q1) fun u s2 ⟨y, H2, I2, r2, q2⟩ =>
    thn (M.cmp X W c.toCxy o pins s2 σ H2 x y v u _ I2 r1 r2 q2) fun z s3 ⟨zv, H3, I3, r3, ρ3, w3, d, a3, rz, q3⟩ => ?_) hm
  cases e : Γ.tru d with
  | none => simp only [e, R.of] at q3; exact q3.elim
  | some t =>
    simp only [e, R.of] at q3
    exact M.tru X W c.toCxy pins s3 σ H3 zv z Q _ d t I3 r3 rz e (q3 H3 Stp.refl a3.en (fun _ h => h) a3.dk)
theorem t_nt {p : PX} (h : PT X a (tDT G W (evT Γ p))) : PT X (.UnaryOp .Not a pos) (tDT G W (evT Γ (.nt p))) := by
  refine PT.weak (pt_not h) fun σ H Q ⟨Bd, ρ, w, a0, q⟩ => ?_
  rw [evT_nt] at q
  exact ⟨Bd, ρ, w, a0, PostT.bindT a0 q fun t ρ1 w1 H1 m q1 => q1 H1 Stp.refl m.at_.en (fun _ h => h) m.at_.dk⟩
theorem t_and1 {p : PX} (h : PT X a (tDT G W (evT Γ p))) : PW X (.BoolOp .And [a] pos) (tDT G W (evT Γ p)) := pw_and1 h
theorem t_or1 {p : PX} (h : PT X a (tDT G W (evT Γ p))) : PW X (.BoolOp .Or [a] pos) (tDT G W (evT Γ p)) := pw_or1 h
theorem PW.weak {e : Expr} {t t' : TT} (h : PW X e t) (hw : ∀ σ H Q, t' σ H Q → t σ H Q) : PW X e t' := ⟨fun wh pins s σ H Q I q => h.run wh pins s σ H Q I (hw σ H Q q)⟩
theorem t_and {p q : PX} {rest : List Expr} (h : PT X a (tDT G W (evT Γ p))) (hr : PW X (.BoolOp .And (b :: rest) pos) (tDT G W (evT Γ q))) : PW X (.BoolOp .And (a :: b :: rest) pos) (tDT G W (evT Γ (.and p q))) := by
  refine PW.weak (pw_and h hr) fun σ H Q ⟨Bd, ρ, w, a0, q⟩ => ?_
  rw [evT_and] at q
  refine ⟨Bd, ρ, w, a0, PostT.bindT a0 q fun t ρ1 w1 H1 m q1 => ?_⟩
  cases t with
  | true => exact ⟨Bd, ρ1, w1, m.at_, q1⟩
  | false => exact q1 H1 Stp.refl m.at_.en (fun _ h => h) m.at_.dk
theorem t_or {p q : PX} {rest : List Expr} (h : PT X a (tDT G W (evT Γ p))) (hr : PW X (.BoolOp .Or (b :: rest) pos) (tDT G W (evT Γ q))) : PW X (.BoolOp .Or (a :: b :: rest) pos) (tDT G W (evT Γ (.or p q))) := by
  refine PW.weak (pw_or h hr) fun σ H Q ⟨Bd, ρ, w, a0, q⟩ => ?_
  rw [evT_or] at q
  refine ⟨Bd, ρ, w, a0, PostT.bindT a0 q fun t ρ1 w1 H1 m q1 => ?_⟩
  cases t with
  | false => exact ⟨Bd, ρ1, w1, m.at_, q1⟩
  | true => exact q1 H1 Stp.refl m.at_.en (fun _ h => h) m.at_.dk
end
end DL
set_option maxRecDepth 100000
set_option maxHeartbeats 2000000
set_option linter.all false
namespace DL
open PySem PySem.Spec PyProof.Rows L2
/-! ### targets -/
def gNs : List (Str × Nat) → TGs
  | [] => gNil
  | p :: ps => gCons (gName p.2) (gNs ps)
def tG (K : PySem.W.Frag) : Tg → TG
  | .nm _ i => gName i
  | .tup xs => gTup K xs.length (gNs xs)
def tgIx : Tg → List Nat
  | .nm _ i => [i]
  | .tup xs => xs.map (·.2)
theorem wipe_get : ∀ (vs : List Nat) (τ : L2.St) (j : Nat), (wipe τ vs)[j]? = if j ∈ vs then (if j < τ.length then some none else none) else τ[j]?
  | [], τ, j => by simp [wipe]
  | v :: vs, τ, j => by
    unfold wipe
    have ih := wipe_get vs τ j
    by_cases h : v = j
    · subst h
      rw [if_pos List.mem_cons_self]
      by_cases hl : v < τ.length
      · rw [List.getElem?_set_self (by rw [wipe_length]; exact hl), if_pos hl]
      · rw [List.getElem?_eq_none (by rw [List.length_set, wipe_length]; omega), if_neg hl]
    · rw [List.getElem?_set_ne h, ih]
      by_cases hm : j ∈ vs
      · rw [if_pos hm, if_pos (List.mem_cons_of_mem _ hm)]
      · rw [if_neg hm, if_neg (fun z => (List.mem_cons.mp z).elim (fun e => h e.symm) hm)]
theorem wipe_set {vs : List Nat} {τ : L2.St} {i : Nat} {o : Option V} (hi : i ∈ vs) : wipe (τ.set i o) vs = wipe τ vs := by
  apply List.ext_getElem?
  intro j
  rw [wipe_get, wipe_get, List.length_set]
  by_cases h : j ∈ vs
  · rw [if_pos h, if_pos h]
  · rw [if_neg h, if_neg h, List.getElem?_set_ne (fun e => h (by rw [← e]; exact hi))]
theorem wipe_wipe (vs : List Nat) (τ : L2.St) : wipe (wipe τ vs) vs = wipe τ vs := by
  apply List.ext_getElem?
  intro j
  rw [wipe_get, wipe_length]
  by_cases h : j ∈ vs
  · rw [if_pos h, wipe_get, if_pos h]
  · rw [if_neg h]
section
variable {G : GC} {P : Program} {wd : World} {base : Heap} {k : Nat} {N : List Str} {sc : Scope} {fa : Bool} {X : Cx} {W : WX} {Γ : Gm} {a b c : Expr} {pos : Pos} {Bd : Addr → Prop} {H H1 H' : Hp} {ρ ρ0 ρ1 : En} {σ σ0 : L2.St} {w w1 : DW} {Q : L2.St → Hp → Prop}
theorem asg_names : ∀ {xs : List (Str × Nat)} {ds : List D} {vs : List V} {ρ : En} {σ : L2.St}, ds.length = xs.length → At G Bd ρ w σ H → DtL G (okA Bd (owns ρ σ)) H ds vs →
    (∀ σ', At G Bd ((xs.zip ds).foldl (fun ρ p => ρ.set p.1.2 (.dat p.2)) ρ) w σ' H → (∀ a ∈ owns ((xs.zip ds).foldl (fun ρ p => ρ.set p.1.2 (.dat p.2)) ρ) σ', a ∈ owns ρ σ) → (∀ us, (∀ i ∈ xs.map (·.2), i ∈ us) → wipe σ' us = wipe σ us) → Q σ' H) → gNs xs vs σ H Q
  | [], [], vs, ρ, σ, _, a, dl, q => ⟨dl, q σ a (fun _ h => h) fun _ _ => rfl⟩
  | p :: xs, d :: ds, vs, ρ, σ, hl, a, dl, q => by
    obtain ⟨v, r, e, hd, ht⟩ := dl
    subst e
    have sub := owns_set_sub (s := .dat d) (fun _ => by intro z; cases z) (ρ := ρ) (σ := σ) p.2 (some v)
    refine ⟨v, r, rfl, asg_names (ρ := ρ.set p.2 (.dat d)) (ds := ds) (by simpa using hl) ⟨a.bd, a.en.setDat p.2 hd, a.dk⟩ (ht.mono (fun b o k e => ⟨okA_sub (fun c hc => sub.subset hc) k, e⟩) fun _ _ e => e) fun σ' a' sb hw => ?_⟩
    exact q σ' a' (fun b hb => sub.subset (sb b hb)) fun us hu => (hw us fun i hi => hu i (List.mem_cons_of_mem _ hi)).trans (wipe_set (hu p.2 List.mem_cons_self))
  | [], _ :: _, _, _, _, hl, _, _, _ => by simp at hl
  | _ :: _, [], _, _, _, hl, _, _, _ => by simp at hl
theorem asg_tg {tg : Tg} {d : D} {v : V} (a : At G Bd ρ w σ H) (hd : Dt G (okA Bd (owns ρ σ)) H d v) (h : asgD tg d ρ = some ρ1) (q : ∀ σ', At G Bd ρ1 w σ' H → (∀ a ∈ owns ρ1 σ', a ∈ owns ρ σ) → (∀ us, (∀ i ∈ tgIx tg, i ∈ us) → wipe σ' us = wipe σ us) → Q σ' H) : tG G.K tg v σ H Q := by
  cases tg with
  | nm x i =>
    cases h
    have sub := owns_set_sub (s := .dat d) (fun _ => by intro z; cases z) (ρ := ρ) (σ := σ) i (some v)
    exact q _ ⟨a.bd, a.en.setDat i hd, a.dk⟩ (fun b hb => sub.subset hb) fun us hu => wipe_set (hu i List.mem_cons_self)
  | tup xs =>
    cases d with
    | tup ds =>
      unfold asgD at h
      by_cases hl : ds.length = xs.length
      · simp only [hl, if_true] at h
        cases h
        obtain ⟨b, us, e, hs, dl⟩ := hd
        refine ⟨b, us, e, ?_, by rw [← dl.length, hl], asg_names hl a dl q⟩
        rcases hs with hs | hs
        · exact .inl (.inl hs)
        · exact hs.1 H
      · simp only [hl, if_false] at h
        cases h
    | _ => cases h
/-! ### iterables -/
structure WalkD (G : GC) (ok : Addr → Prop) (H : Hp) (J : It) (ds : List D) : Prop where
  ex : ∃ (Gd : Hp → Prop) (Y : Nat → Hp → V → Hp → Prop), Walk J ds.length Gd Y ∧ (∀ H1, (∀ a o, ok a → H a = some o → H1 a = some o) → (∀ a xs, H a = some (.tup xs) → H1 a = some (.tup xs)) → Gd H1) ∧
    ∀ i H1 x H2, i < ds.length → (∀ a o, ok a → H a = some o → H1 a = some o) → (∀ a xs, H a = some (.tup xs) → H1 a = some (.tup xs)) → Y i H1 x H2 → Ext H1 H2 ∧ ∃ d, ds[i]? = some d ∧ ∀ ok' : Addr → Prop, (∀ a o, ok a → H a = some o → ok' a) → Dt G ok' H2 d x
def PostI (G : GC) (W : WX) (Bd : Addr → Prop) (ρ0 : En) (σ : L2.St) (H : Hp) (r : R (List D)) (Q : It → Hp → Prop) : Prop := match r with
  | .ok ds ρ w => ∀ J H', Stp G (owns ρ0 σ) H H' → EnD G Bd H' ρ σ → (∀ a ∈ owns ρ σ, a ∈ owns ρ0 σ) → DkD G H' w → WalkD G (okA Bd (owns ρ σ)) H' J ds → Q J H'
  | .exc x ρ w => ∀ cls dd H', Stp G (owns ρ0 σ) H H' → EnD G Bd H' ρ σ → (∀ a ∈ owns ρ σ, a ∈ owns ρ0 σ) → DkD G H' w → ExD G (okA Bd (owns ρ σ)) H' x cls dd → W cls dd σ H'
  | .stuck => False
def tDI (G : GC) (W : WX) (f : En → DW → R (List D)) : TI := fun σ H Q => ∃ Bd ρ w, At G Bd ρ w σ H ∧ PostI G W Bd ρ σ H (f ρ w) Q
theorem PI.weak {tg it : Expr} {t t' : TI} (h : PI X tg it t) (hw : ∀ σ H Q, t' σ H Q → t σ H Q) : PI X tg it t' := ⟨fun pins s σ H R I q => h.run pins s σ H R I (hw σ H R q)⟩
theorem PI.or {tg it : Expr} {t t' : TI} (h : PI X tg it t) (h' : PI X tg it t') : PI X tg it (fun σ H R => t σ H R ∨ t' σ H R) := ⟨fun pins s σ H R I q => q.elim (h.run pins s σ H R I) (h'.run pins s σ H R I)⟩
theorem PostI.shift {r : R (List D)} {Q : It → Hp → Prop} (s : Stp G (owns ρ0 σ) H H1) (sub : ∀ a ∈ owns ρ1 σ, a ∈ owns ρ0 σ) (h : PostI G W Bd ρ0 σ H r Q) : PostI G W Bd ρ1 σ H1 r Q := by
  cases r with
  | ok d ρ w => exact fun v H' s' en sb dk q => h v H' (s.trans s' fun a ha => .inl (sub a ha)) en (fun a ha => sub a (sb a ha)) dk q
  | exc x ρ w => exact fun c dd H' s' en sb dk q => h c dd H' (s.trans s' fun a ha => .inl (sub a ha)) en (fun a ha => sub a (sb a ha)) dk q
  | stuck => exact h
theorem PostI.bind {relA : RelD} {r : R D} {k : D → En → DW → R (List D)} {N : VK} {Q : It → Hp → Prop} (a : At G Bd ρ w σ H) (h : PostI G W Bd ρ σ H (r.bind k) Q)
    (hk : ∀ d ρ1 w1 v H1, Mid G Bd ρ ρ1 w1 σ H H1 → relA (okA Bd (owns ρ1 σ)) H1 d v → PostI G W Bd ρ1 σ H1 (k d ρ1 w1) Q → N v H1) : PostE G W relA Bd ρ σ H r N := by
  cases r with
  | ok d ρ1 w1 => exact fun v H1 s en sb dk q => hk d ρ1 w1 v H1 ⟨a.step s en dk, s, sb⟩ q (h.shift s sb)
  | exc x ρ1 w1 => exact h
  | stuck => exact h
theorem walk_lst {ok : Addr → Prop} {ad : Addr} {xs : List V} {ds : List D} (hk : ok ad) (h : H ad = some (.lst xs)) (dl : DtL G ok H ds xs) : WalkD G ok H (Itl G.K ad) ds := by
  refine ⟨⟨_, _, by rw [dl.length]; exact walk_list (K := G.K) (a := ad) (xs := xs), fun H1 e _ => SqL.of (e ad _ hk h), fun i H1 x H2 hi e et y => ?_⟩⟩
  obtain ⟨e2, hx⟩ := y
  subst e2
  obtain ⟨d, h1, h2⟩ := dl.get hx
  exact ⟨Ext.refl, d, h1, fun ok' ho => h2.mono (fun a o k q => ⟨ho a o k q, e a o k q⟩) et⟩
theorem walk_tupD {ok : Addr → Prop} {ad : Addr} {xs : List V} {ds : List D} (h : H ad = some (.tup xs) ∨ ∀ H', SqT G.K H' ad xs) (dl : DtL G ok H ds xs) : WalkD G ok H (Itt G.K ad) ds := by
  refine ⟨⟨_, _, by rw [dl.length]; exact walk_tup (K := G.K) (a := ad) (xs := xs), fun H1 e et => ?_, fun i H1 x H2 hi e et y => ?_⟩⟩
  · rcases h with h | h
    · exact .inl (.inl (et ad xs h))
    · exact h H1
  · obtain ⟨e2, hx⟩ := y
    subst e2
    obtain ⟨d, h1, h2⟩ := dl.get hx
    exact ⟨Ext.refl, d, h1, fun ok' ho => h2.mono (fun a o k q => ⟨ho a o k q, e a o k q⟩) et⟩
theorem one_sign (c : Nat) : (⟨#[c]⟩ : Str).length ≤ sizeLine := by
  show 1 ≤ sizeLine
  decide
theorem walk_strD {ok : Addr → Prop} {z : Str} : WalkD G ok H (Its z) (z.cps.toList.map fun c => .str ⟨#[c]⟩) := by
  refine ⟨⟨_, _, by rw [List.length_map, Array.length_toList]; exact walk_str (z := z), fun H1 e et => trivial, fun i H1 x H2 hi e et y => ?_⟩⟩
  obtain ⟨e2, c, h1, h2⟩ := y
  subst e2 h2
  refine ⟨Ext.refl, .str ⟨#[c]⟩, ?_, fun ok' ho => ⟨rfl, one_sign c⟩⟩
  rw [List.getElem?_map, Array.getElem?_toList, h1]
  rfl
theorem walk_rng {ok : Addr → Prop} {lo hi : Int} : WalkD G ok H (Itr lo (hi - lo).toNat) (intsD lo hi) := by
  refine ⟨⟨_, _, by rw [show (intsD lo hi).length = (hi - lo).toNat by unfold intsD; rw [List.length_map, List.length_range]]; exact walk_range (lo := lo), fun H1 e et => trivial, fun i H1 x H2 hi' e et y => ?_⟩⟩
  obtain ⟨e2, h1⟩ := y
  subst e2 h1
  have hl : i < (hi - lo).toNat := by
    unfold intsD at hi'
    rw [List.length_map, List.length_range] at hi'
    exact hi'
  refine ⟨Ext.refl, .int (lo + (i : Nat)), ?_, fun ok' ho => rfl⟩
  unfold intsD
  rw [List.getElem?_map, List.getElem?_range hl]
  rfl
theorem PE.three {e : Expr} {t1 t2 : TE} (h : PE X e t1) (h' : PE X e t2) : PE X e (fun σ H Q => t1 σ H Q ∨ t2 σ H Q) := ⟨fun pins s σ H Q I q => q.elim (h.run pins s σ H Q I) (h'.run pins s σ H Q I)⟩
/-- a list, a tuple, a text -/
theorem i_val {p : PX} {tg e : Expr} (M : GmOk G P wd base k Γ) (c : Cxx G P wd base k N sc fa X W) (h : PE X e (tD G W (ev Γ p))) : PI X tg e (tDI G W (evI Γ (.val p))) := by
  have hl := PI.or (pi_list (tg := tg) h) (PI.or (pi_tup (tg := tg) h) (pi_str (tg := tg) h))
  refine PI.weak hl fun σ H Q ⟨Bd, ρ, w, a, q⟩ => ?_
  rw [evI_val] at q
  -- what the walked thing is
  cases e1 : ev Γ p ρ w with
  | stuck => rw [e1] at q; exact q.elim
  | exc x ρ1 w1 =>
    rw [e1] at q
    exact .inl ⟨Bd, ρ, w, a, by rw [e1]; exact q⟩
  | ok d ρ1 w1 =>
    have q0 := q
    rw [e1] at q
    simp only [R.bind] at q
    cases e2 : Γ.it d with
    | none => simp only [e2, R.of] at q; exact q.elim
    | some ds =>
      simp only [e2, R.of] at q
      rcases M.it d ds e2 with e | e | ⟨z, e, e'⟩
      · subst e
        refine .inl ⟨Bd, ρ, w, a, ?_⟩
        rw [e1]
        intro v H' s en sb dk r
        obtain ⟨ad, xs, e3, e4, e5, e6⟩ := r
        exact ⟨ad, e3, ⟨xs, SqL.of e5⟩, q _ H' s en sb dk (by rw [c.K]; exact walk_lst e4 e5 e6)⟩
      · subst e
        refine .inr (.inl ⟨Bd, ρ, w, a, ?_⟩)
        rw [e1]
        intro v H' s en sb dk r
        obtain ⟨ad, xs, e3, e5, e6⟩ := r
        refine ⟨ad, e3, ⟨xs, ?_⟩, q _ H' s en sb dk (by rw [c.K]; exact walk_tupD (e5.imp id (·.1)) e6)⟩
        rw [c.K]
        rcases e5 with e5 | e5
        · exact .inl (.inl e5)
        · exact e5.1 H'
      · subst e e'
        refine .inr (.inr ⟨Bd, ρ, w, a, ?_⟩)
        rw [e1]
        intro v H' s en sb dk r
        exact ⟨z, r.1, q _ H' s en sb dk walk_strD⟩
end
end DL
set_option maxRecDepth 100000
set_option maxHeartbeats 2000000
set_option linter.all false
namespace DL
open PySem PySem.Spec PyProof.Rows L2
section
variable {G : GC} {P : Program} {wd : World} {base : Heap} {k : Nat} {N : List Str} {sc : Scope} {fa : Bool} {X : Cx} {W : WX} {Γ : Gm} {a b c : Expr} {pos : Pos} {Bd : Addr → Prop} {H H1 H' : Hp} {ρ ρ0 ρ1 : En} {σ σ0 : L2.St} {w w1 : DW}
theorem glob_of (c : Cxx G P wd base k N sc fa X W) {x : Str} (h : G.mg x = none) : X.mg x = none := by rw [c.mg]; exact h
theorem i_range1 {p : PX} {tg : Expr} {pp : Pos} (c : Cxx G P wd base k N sc fa X W) (hm : G.mg "range" = none) (hg : glB sc "range" = true) (h : PE X a (tD G W (ev Γ p))) (hst : notStar a = true) : PI X tg (.Call (.Name "range" pp) [a] [] pos) (tDI G W (evI Γ (.range1 p))) := by
  refine PI.weak (pi_range1 (c.gl hg) (glob_of c hm) (pa_cons h pa_nil (starEach_of hst _ _)) (starEach_of hst _ _)) fun σ H Q ⟨Bd, ρ, w, a0, q⟩ => ?_
  rw [evI_range1] at q
  refine ⟨Bd, ρ, w, a0, PostI.bind a0 q fun d ρ1 w1 v H1 m r q1 => ?_⟩
  cases d with
  | int n =>
    simp only [rng1] at q1
    by_cases hn : -4611686018427387904 ≤ n ∧ n < 4611686018427387904
    · rw [if_pos hn] at q1
      have hv : v = .int n := r
      subst hv
      refine ⟨n, rfl, hn.1, hn.2, q1 _ H1 Stp.refl m.at_.en (fun _ h => h) m.at_.dk ?_⟩
      have e : n.toNat = (n - 0).toNat := by rw [Int.sub_zero]
      rw [e]
      exact walk_rng
    · rw [if_neg hn] at q1
      exact q1.elim
  | _ => exact q1.elim
theorem i_range2 {p p2 : PX} {tg : Expr} {pp : Pos} (c : Cxx G P wd base k N sc fa X W) (hm : G.mg "range" = none) (hg : glB sc "range" = true) (h : PE X a (tD G W (ev Γ p))) (h2 : PE X b (tD G W (ev Γ p2))) (hst : notStar a = true) (hst2 : notStar b = true) :
    PI X tg (.Call (.Name "range" pp) [a, b] [] pos) (tDI G W (evI Γ (.range2 p p2))) := by
  refine PI.weak (pi_range2 (c.gl hg) (glob_of c hm) (pa_cons h (pa_cons h2 pa_nil (starEach_of hst2 _ _)) (starEach_of hst _ _)) (by rw [starEach_of hst, starEach_of hst2]; rfl) (starEach_of hst2 _ _)) fun σ H Q ⟨Bd, ρ, w, a0, q⟩ => ?_
  rw [evI_range2] at q
  refine ⟨Bd, ρ, w, a0, PostI.bind a0 q fun d ρ1 w1 v H1 m r q1 => ?_⟩
  refine ⟨Bd, ρ1, w1, m.at_, PostI.bind m.at_ q1 fun e ρ2 w2 u H2 m2 r2 q2 => ?_⟩
  cases d with
  | int lo =>
    cases e with
    | int hi =>
      simp only [rng2] at q2
      by_cases hn : (-4611686018427387904 ≤ lo ∧ lo < 4611686018427387904) ∧ -4611686018427387904 ≤ hi ∧ hi < 4611686018427387904
      · rw [if_pos hn] at q2
        have hv : v = .int lo := r
        have hu : u = .int hi := r2
        subst hv hu
        exact ⟨lo, hi, rfl, ⟨hn.1.1, hn.1.2, hn.2.1, hn.2.2⟩, q2 _ H2 Stp.refl m2.at_.en (fun _ h => h) m2.at_.dk walk_rng⟩
      · rw [if_neg hn] at q2
        exact q2.elim
    | _ => exact q2.elim
  | _ => exact q2.elim
/-! ### zip of two lists, of two tuples -/
theorem zipD_len : ∀ as bs : List D, (zipD as bs).length = min as.length bs.length
  | [], bs => by rw [zipD]; simp; intros; contradiction
  | a :: as, [] => by rw [zipD]; simp; intros; contradiction
  | a :: as, b :: bs => by rw [zipD, List.length_cons, List.length_cons, List.length_cons, zipD_len as bs]; omega
theorem zipD_get : ∀ {as bs : List D} {i : Nat} {a b : D}, as[i]? = some a → bs[i]? = some b → (zipD as bs)[i]? = some (.tup [a, b])
  | [], _, i, a, b, h, _ => by simp at h
  | _ :: _, [], i, a, b, _, h => by simp at h
  | x :: as, y :: bs, 0, a, b, h1, h2 => by
    cases Option.some.inj (show some x = some a by simpa using h1)
    cases Option.some.inj (show some y = some b by simpa using h2)
    rfl
  | x :: as, y :: bs, i + 1, a, b, h1, h2 => by
    rw [zipD]
    show (zipD as bs)[i]? = _
    exact zipD_get (by simpa using h1) (by simpa using h2)
theorem walk_zipT {K : PySem.W.Frag} {a b : Addr} {xs ys : List V} {n : Nat} (hn : n = min xs.length ys.length) : Walk (RZ.ItzT K a b) n (fun H => SqT K H a xs ∧ SqT K H b ys) (YPair (fun i => xs[i]?) (fun i => ys[i]?)) := by
  subst hn
  refine ⟨fun i _ hi q => ?_, fun _ q => ⟨xs, ys, q.1, q.2, by omega⟩, fun i H v H' _ q y => ?_⟩
  · have h1 : i < xs.length := by omega
    have h2 : i < ys.length := by omega
    exact ⟨xs, ys, xs[i], ys[i], q.1, q.2, by simp [h1], by simp [h2]⟩
  · obtain ⟨T, x, z, h1, h2, h3, h4, h5⟩ := y
    exact ⟨T, x, z, h1, h2, h3, h4 xs q.1, h5 ys q.2⟩
theorem pair_walk {ok : Addr → Prop} {H H1 H2 : Hp} {xs ys : List V} {ds es : List D} {i : Nat} {x : V} (dl : DtL G ok H ds xs) (el : DtL G ok H es ys) (e : ∀ a o, ok a → H a = some o → H1 a = some o) (et : ∀ a xs, H a = some (.tup xs) → H1 a = some (.tup xs))
    (y : YPair (fun i => xs[i]?) (fun i => ys[i]?) i H1 x H2) : Ext H1 H2 ∧ ∃ d, (zipD ds es)[i]? = some d ∧ ∀ ok' : Addr → Prop, (∀ a o, ok a → H a = some o → ok' a) → Dt G ok' H2 d x := by
  obtain ⟨T, u, v, h1, h2, h3, h4, h5⟩ := y
  subst h1 h3
  obtain ⟨d1, f1, f2⟩ := dl.get h4
  obtain ⟨d2, f3, f4⟩ := el.get h5
  refine ⟨Ext.new h2, _, zipD_get f1 f3, fun ok' ho => ⟨T, [u, v], rfl, .inl upd_same, ?_⟩⟩
  have up : ∀ {d : D} {v : V}, Dt G ok H d v → Dt G ok' (upd H1 T (.tup [u, v])) d v := fun h => (h.mono (fun a o k q => ⟨ho a o k q, e a o k q⟩) et).ext (Ext.new h2)
  exact .cons ((f2.mono (ok' := ok') (fun a o k q => ⟨ho a o k q, e a o k q⟩) et).ext (Ext.new h2)) (.cons ((f4.mono (ok' := ok') (fun a o k q => ⟨ho a o k q, e a o k q⟩) et).ext (Ext.new h2)) .nil)
theorem i_zip2 {p p2 : PX} {elts : List Expr} {kk : Nat} {tpos pp : Pos} (c : Cxx G P wd base k N sc fa X W) (hm : G.mg "zip" = none) (hg : glB sc "zip" = true) (h : PE X a (tD G W (ev Γ p))) (h2 : PE X b (tD G W (ev Γ p2))) (hst : notStar a = true) (hst2 : notStar b = true) :
    PI X (.Tuple elts kk tpos) (.Call (.Name "zip" pp) [a, b] [] pos) (tDI G W (evI Γ (.zip2 p p2))) := by
  refine PI.weak (RZ.pi_zipA (c.gl hg) (glob_of c hm) (pa_cons h (pa_cons h2 pa_nil (starEach_of hst2 _ _)) (starEach_of hst _ _)) (starEach_of hst _ _) (args_plain (by simp [hst2]) _ _)) fun σ H Q ⟨Bd, ρ, w, a0, q⟩ => ?_
  rw [evI_zip2] at q
  refine ⟨Bd, ρ, w, a0, PostI.bind a0 q fun d ρ1 w1 v H1 m r q1 => ?_⟩
  refine ⟨Bd, ρ1, w1, m.at_, PostI.bind m.at_ q1 fun e ρ2 w2 u H2 m2 r2 q2 => ?_⟩
  have r1 : Dt G (okA Bd (owns ρ2 σ)) H2 d v := Dt.carry m.at_.bd m2.stp (fun a ha => .inl (m2.sub a ha)) r
  cases d with
  | lst ds =>
    cases e with
    | lst es =>
      obtain ⟨ad, xs, e1, k1, e2, e3⟩ := r1
      obtain ⟨bd, ys, f1, k2, f2, f3⟩ := r2
      subst e1 f1
      refine ⟨ad, bd, xs, ys, rfl, .inl ⟨.inl (.inl e2), .inl (.inl f2), q2 _ H2 Stp.refl m2.at_.en (fun _ h => h) m2.at_.dk ?_⟩⟩
      rw [c.K]
      exact ⟨_, _, walk_zip (K := G.K) (a := ad) (b := bd) (xs := xs) (ys := ys) (by rw [zipD_len, e3.length, f3.length]), fun H3 e et => ⟨.inl (.inl (e ad _ k1 e2)), .inl (.inl (e bd _ k2 f2))⟩, fun i H3 x H4 hi e et y => pair_walk e3 f3 e et y⟩
    | _ => exact q2.elim
  | tup ds =>
    cases e with
    | tup es =>
      obtain ⟨ad, xs, e1, e2, e3⟩ := r1
      obtain ⟨bd, ys, f1, f2, f3⟩ := r2
      subst e1 f1
      have sq : ∀ {ad : Addr} {xs : List V} {ds : List D} {H3 : Hp}, (H2 ad = some (.tup xs) ∨ ((∀ H', SqT G.K H' ad xs) ∧ noI ds = true)) → (∀ a xs, H2 a = some (.tup xs) → H3 a = some (.tup xs)) → SqT G.K H3 ad xs := fun h et => h.elim (fun h => .inl (.inl (et _ _ h))) fun h => h.1 _
      refine ⟨ad, bd, xs, ys, rfl, .inr ⟨by rw [c.K]; exact sq e2 fun _ _ h => h, by rw [c.K]; exact sq f2 fun _ _ h => h, q2 _ H2 Stp.refl m2.at_.en (fun _ h => h) m2.at_.dk ?_⟩⟩
      rw [c.K]
      exact ⟨_, _, walk_zipT (K := G.K) (a := ad) (b := bd) (xs := xs) (ys := ys) (by rw [zipD_len, e3.length, f3.length]), fun H3 e et => ⟨sq e2 et, sq f2 et⟩, fun i H3 x H4 hi e et y => pair_walk e3 f3 e et y⟩
    | _ => exact q2.elim
  | _ => exact q2.elim
/-! ### statements -/
theorem s_asg {x : Str} {i : Nat} {e : Expr} {p : PX} {pos' : Pos} (c : Cxx G P wd base k N sc fa X W) (hi : N[i]? = some x) (hx : locB fa sc x = true) (he : PE X e (tD G W (ev Γ p))) (hs : notComp e = true) : PS X (.Assign [.Name x pos'] e pos) (tDS G W (exS Γ (.asg x i p))) := by
  obtain ⟨l1, l2⟩ := loc_of hx
  refine PS.weak (ps_set (by rw [c.xN]; exact c.nd) (by rw [c.xN]; exact hi) (by rw [c.sc]; exact l1) he (swaps_of hs _ _ _) (l2.imp (fun z => c.fnl z x) fun z => by rw [c.sc]; exact z)) fun E σ H ⟨Bd, ρ, w, a0, q⟩ => ?_
  rw [exS_asg] at q
  refine ⟨Bd, ρ, w, a0, PostS.bind (relA := Dt G) a0 q fun d ρ1 w1 v H1 m r q1 => ?_⟩
  have sub := owns_set_sub (s := .dat d) (fun _ => by intro z; cases z) (ρ := ρ1) (σ := σ) i (some v)
  exact q1 _ H1 Stp.refl (m.at_.en.setDat i r) (fun b hb => .inl (sub.subset hb)) m.at_.dk
/-- a comprehension, stored -/
theorem s_asgC {x : Str} {i : Nat} {e : Expr} {p : PX} {pos' : Pos} (he : PS X (.Assign [.Name x pos'] e pos) (tAsg (tD G W (ev Γ p)) (gName i))) : PS X (.Assign [.Name x pos'] e pos) (tDS G W (exS Γ (.asg x i p))) := by
  refine PS.weak he fun E σ H ⟨Bd, ρ, w, a0, q⟩ => ?_
  rw [exS_asg] at q
  refine ⟨Bd, ρ, w, a0, PostS.bind (relA := Dt G) a0 q fun d ρ1 w1 v H1 m r q1 => ?_⟩
  have sub := owns_set_sub (s := .dat d) (fun _ => by intro z; cases z) (ρ := ρ1) (σ := σ) i (some v)
  exact q1 _ H1 Stp.refl (m.at_.en.setDat i r) (fun b hb => .inl (sub.subset hb)) m.at_.dk
theorem asgO_post {x : Str} {i : Nat} {p : PX} {E : Ends} (h : tDS G W (exS Γ (.asgO x i p)) E σ H) : tAsg (tDF G W (ev Γ p)) (gName i) E σ H := by
  obtain ⟨Bd, ρ, w, a0, q⟩ := h
  rw [exS_asgO] at q
  refine ⟨Bd, ρ, w, a0, PostS.bindF a0 q fun d ρ1 w1 ad H1 H2 m hn e ow q1 => ?_⟩
  unfold ownD at q1
  by_cases hl : i < ρ1.length
  · simp only [hl, if_true, RS.ofE] at q1
    obtain ⟨en, ins⟩ := m.at_.en.setOwn m.at_.bd i hl hn e ow
    exact q1 _ H2 e.stp en (fun b hb => by
      rcases ins b hb with z | z
      · exact .inl z
      · exact .inr (by rw [z]; exact hn)) (m.at_.dk.ext e)
  · simp only [hl, if_false, RS.ofE] at q1
    exact q1.elim
theorem s_asgO {x : Str} {i : Nat} {e : Expr} {p : PX} {pos' : Pos} (c : Cxx G P wd base k N sc fa X W) (hi : N[i]? = some x) (hx : locB fa sc x = true) (he : PE X e (tDF G W (ev Γ p))) (hs : notComp e = true) : PS X (.Assign [.Name x pos'] e pos) (tDS G W (exS Γ (.asgO x i p))) := by
  obtain ⟨l1, l2⟩ := loc_of hx
  exact PS.weak (ps_set (by rw [c.xN]; exact c.nd) (by rw [c.xN]; exact hi) (by rw [c.sc]; exact l1) he (swaps_of hs _ _ _) (l2.imp (fun z => c.fnl z x) fun z => by rw [c.sc]; exact z)) fun E σ H h => asgO_post h
/-- no stores change places: no tuple is written, or one of two names is a cell -/
theorem sw_none {tgs : List Expr} {kk : _} {pt : Pos} {e : Expr} {env : Env} (ht : notTup e = true) : swappedStores [Expr.Tuple tgs kk pt] e env = pure none := by
  cases e <;> first | rfl | exact absurd ht Bool.false_ne_true
theorem sw_cell {x y : Str} {px py pt pt2 : Pos} {kk k2 : _} {a b : Expr} {env : Env} (h : env.scope.names.lookup x = some .cell ∨ env.scope.names.lookup y = some .cell) : swappedStores [Expr.Tuple [.Name x px, .Name y py] kk pt] (.Tuple [a, b] k2 pt2) env = pure none := by
  have hk : ∀ z, env.kindOf z = env.scope.names.lookup z := fun z => rfl
  have hn : (([Expr.Name x px, Expr.Name y py] : List Expr).filterMap fun
    | .Name id pos => if env.kindOf id == some .local && pos.line == px.line then some id else none
    | _ => none).length ≠ 2 := by
    rcases h with h | h
    · have e : (env.kindOf x == some .local) = false := by rw [hk, h]; rfl
      simp only [List.filterMap_cons, e, Bool.false_and, Bool.false_eq_true, if_false, List.filterMap_nil]
      split <;> simp
    · have e : (env.kindOf y == some .local) = false := by rw [hk, h]; rfl
      simp only [List.filterMap_cons, e, Bool.false_and, Bool.false_eq_true, if_false, List.filterMap_nil]
      split <;> simp
  unfold swappedStores
  dsimp only
  split
  · rfl
  split
  · rfl
  rw [if_pos (by
    rw [Bool.or_eq_true]
    exact .inl (bne_iff_ne.mpr hn))]
theorem s_asgT {tgs : List Expr} {kk : Nat} {pt : Pos} {xs : List (Str × Nat)} {e : Expr} {p : PX} (c : Cxx G P wd base k N sc fa X W) (hg : PGs X tgs (gNs xs)) (hl : tgs.length = xs.length) (hstar : tgs.all notStar = true) (he : PE X e (tD G W (ev Γ p))) (hs : notComp e = true) (hw : swappedStores [Expr.Tuple tgs kk pt] e X.env = pure none) :
    PS X (.Assign [.Tuple tgs kk pt] e pos) (tDS G W (exS Γ (.asgT xs false p))) := by
  have hn : (assignEach tgs X.env).length = xs.length := by
    rw [← hl]
    clear hl hg hw
    induction tgs with
    | nil => rfl
    | cons t ts ih =>
      simp only [List.all_cons, Bool.and_eq_true] at hstar
      rw [assignEach_of hstar.1, List.length_cons, ih hstar.2, List.length_cons]
  have hst : (assignEach tgs X.env).findIdx? (·.1) = none := by
    clear hl hg hn hw
    induction tgs with
    | nil => rfl
    | cons t ts ih =>
      simp only [List.all_cons, Bool.and_eq_true] at hstar
      rw [assignEach_of hstar.1, List.findIdx?_cons]
      simp [ih hstar.2]
  have hsw : swapsWithSole [Expr.Tuple tgs kk pt] e pos.line X.env = pure false := by
    show swapsWith e (some (Expr.Tuple tgs kk pt)) pos.line X.env = pure false
    exact swaps_of hs _ _ _
  refine PS.weak (ps_asg he (pg_tup c.calm hg hn hst) hsw hw rfl) fun E σ H ⟨Bd, ρ, w, a0, q⟩ => ?_
  rw [exS_asgT] at q
  refine ⟨Bd, ρ, w, a0, PostS.bind (relA := Dt G) a0 q fun d ρ1 w1 v H1 m r q1 => ?_⟩
  cases d with
  | tup ds =>
    simp only [asgTD, asgL] at q1
    by_cases hz : ds.length = xs.length
    · simp only [hz, if_true, RS.ofE] at q1
      obtain ⟨b, us, e1, hs1, dl⟩ := r
      refine ⟨b, us, e1, ?_, by rw [← dl.length, hz], asg_names hz m.at_ dl fun σ' a' sb _ => ?_⟩
      · rw [c.K]
        rcases hs1 with hs1 | hs1
        · exact .inl (.inl hs1)
        · exact hs1.1 H1
      · exact q1 σ' H1 Stp.refl a'.en (fun b hb => .inl (sb b hb)) a'.dk
    · simp only [hz, if_false, RS.ofE] at q1
      exact q1.elim
  | _ => exact q1.elim
theorem s_ret {e : Expr} {p : PX} (he : PE X e (tD G W (ev Γ p))) : PS X (.Return (some e) pos) (tDS G W (exS Γ (.ret p))) := by
  refine PS.weak (ps_ret he) fun E σ H ⟨Bd, ρ, w, a0, q⟩ => ?_
  rw [exS_ret] at q
  refine ⟨Bd, ρ, w, a0, PostS.bind (relA := Dt G) a0 q fun d ρ1 w1 v H1 m r q1 => ?_⟩
  exact q1 v H1 Stp.refl m.at_.dk (r.mono (fun a o k e => ⟨k.1, e⟩) fun _ _ e => e)
theorem s_retN : PS X (.Return none pos) (tDS G W (exS Γ .retN)) := by
  refine PS.weak ps_retN fun E σ H ⟨Bd, ρ, w, a0, q⟩ => ?_
  rw [exS_retN] at q
  exact q .non H Stp.refl a0.dk rfl
theorem s_ex {e : Expr} {p : PX} (he : PE X e (tD G W (ev Γ p))) (hs : notComp e = true) : PS X (.Expr e pos) (tDS G W (exS Γ (.ex p))) := by
  refine PS.weak (ps_expr he (swaps_of hs _ _ _)) fun E σ H ⟨Bd, ρ, w, a0, q⟩ => ?_
  rw [exS_ex] at q
  refine ⟨Bd, ρ, w, a0, PostS.bind (relA := Dt G) a0 q fun d ρ1 w1 v H1 m r q1 => ?_⟩
  exact q1 _ H1 Stp.refl m.at_.en (fun b hb => .inl hb) m.at_.dk
theorem s_here {r : RS} {E : Ends} (a0 : At G Bd ρ w σ H) (h : PostS G W Bd ρ σ H (.nx ρ w) E) : E.nx σ H := h σ H Stp.refl a0.en (fun b hb => .inl hb) a0.dk
theorem s_pass : PS X (.Pass pos) (tDS G W (exS Γ .pass)) := PS.weak ps_pass fun E σ H ⟨Bd, ρ, w, a0, q⟩ => by
  rw [exS_pass] at q
  exact q σ H Stp.refl a0.en (fun b hb => .inl hb) a0.dk
theorem s_brk : PS X (.Break pos) (tDS G W (exS Γ .brk)) := PS.weak ps_break fun E σ H ⟨Bd, ρ, w, a0, q⟩ => by
  rw [exS_brk] at q
  exact q σ H Stp.refl a0.en (fun b hb => .inl hb) a0.dk
theorem s_cont : PS X (.Continue pos) (tDS G W (exS Γ .cont)) := PS.weak ps_continue fun E σ H ⟨Bd, ρ, w, a0, q⟩ => by
  rw [exS_cont] at q
  exact q σ H Stp.refl a0.en (fun b hb => .inl hb) a0.dk
theorem s_doc {x : Str} {j : Nat} {p2 : Pos} : PS X (.Expr (.Constant (.str x) j p2) pos) (tDS G W (exS Γ .doc)) := PS.weak ps_doc fun E σ H ⟨Bd, ρ, w, a0, q⟩ => by
  rw [exS_doc] at q
  exact q σ H Stp.refl a0.en (fun b hb => .inl hb) a0.dk
theorem s_never {st : Stmt} : PS X st (tDS G W (exS Γ .never)) := PS.weak ps_never fun E σ H ⟨Bd, ρ, w, a0, q⟩ => by
  rw [exS_never] at q
  exact q.elim
theorem ss_nil : PSs X [] (tDS G W (exSs Γ .nil)) := PSs.weak pss_nil fun E σ H ⟨Bd, ρ, w, a0, q⟩ => by
  rw [exSs_nil] at q
  exact q σ H Stp.refl a0.en (fun b hb => .inl hb) a0.dk
theorem ss_cons {st : Stmt} {rest : List Stmt} {p : PY} {ps : PYs} (h : PS X st (tDS G W (exS Γ p))) (hr : PSs X rest (tDS G W (exSs Γ ps))) : PSs X (st :: rest) (tDS G W (exSs Γ (.cons p ps))) := by
  refine PSs.weak (pss_cons h hr) fun E σ H ⟨Bd, ρ, w, a0, q⟩ => ?_
  rw [exSs_cons] at q
  refine ⟨Bd, ρ, w, a0, ?_⟩
  cases e : exS Γ p ρ w with
  | nx ρ1 w1 =>
    rw [e] at q
    exact fun σ' H' s en sb dk => ⟨Bd, ρ1, w1, ⟨a0.bd.step s, en, dk⟩, PostS.shift s sb q⟩
  | rt d w1 => rw [e] at q; exact q
  | bk ρ1 w1 => rw [e] at q; exact q
  | ct ρ1 w1 => rw [e] at q; exact q
  | exc x ρ1 w1 => rw [e] at q; exact q
  | stuck => rw [e] at q; exact q
theorem s_ifs {e : Expr} {ta tb : List Stmt} {pc : PX} {pa pb : PYs} (hc : PT X e (tDT G W (evT Γ pc))) (ha : PSs X ta (tDS G W (exSs Γ pa))) (hb : PSs X tb (tDS G W (exSs Γ pb))) : PS X (.If e ta tb pos) (tDS G W (exS Γ (.ifs pc pa pb))) := by
  refine PS.weak (ps_if hc ha hb) fun E σ H ⟨Bd, ρ, w, a0, q⟩ => ?_
  rw [exS_ifs] at q
  refine ⟨Bd, ρ, w, a0, PostS.bindT a0 q fun t ρ1 w1 H1 m q1 => ?_⟩
  cases t with
  | true => exact ⟨Bd, ρ1, w1, m.at_, q1⟩
  | false => exact ⟨Bd, ρ1, w1, m.at_, q1⟩
theorem PostS.bindI {r : R (List D)} {kk : List D → En → DW → RS} {Nn : It → Hp → Prop} {E : Ends} (a : At G Bd ρ w σ H) (h : PostS G W Bd ρ σ H (r.bindS kk) E)
    (hk : ∀ ds ρ1 w1 J H1, Mid G Bd ρ ρ1 w1 σ H H1 → WalkD G (okA Bd (owns ρ1 σ)) H1 J ds → PostS G W Bd ρ1 σ H1 (kk ds ρ1 w1) E → Nn J H1) : PostI G W Bd ρ σ H r Nn := by
  cases r with
  | ok d ρ1 w1 => exact fun J H1 s en sb dk q => hk d ρ1 w1 J H1 ⟨a.step s en dk, s, sb⟩ q (h.shift s fun a ha => .inl (sb a ha))
  | exc x ρ1 w1 => exact PostS.ofExc (r := .stuck) h
  | stuck => exact h
theorem drop_at {α : Type} {ds : List α} {i : Nat} {d : α} (h : ds[i]? = some d) : ds.drop i = d :: ds.drop (i + 1) := by
  have hl : i < ds.length := (List.getElem?_eq_some_iff.mp h).1
  have e := (List.getElem?_eq_some_iff.mp h).2
  rw [List.drop_eq_getElem_cons hl, e]
/-- the turns of a for -/
theorem for_turns {tg : Tg} {f : En → DW → RS} {ds : List D} {J : It} {E : Ends} (a0 : At G Bd ρ w σ H) (wk : WalkD G (okA Bd (owns ρ σ)) H J ds) (q : PostS G W Bd ρ σ H (forD tg f ds ρ w) E) :
    ∃ Wv : Nat → Nat → L2.St → Hp → Prop, (∃ m, Wv 0 m σ H) ∧ ∀ i m σ H, Wv i m σ H →
      (J.stop i H ∧ E.nx σ H) ∨ (J.go i H ∧ ∃ Nn : L2.St → Hp → Prop, (∀ σ' H', Nn σ' H' → ∃ m', m' < m ∧ Wv (i + 1) m' σ' H') ∧ ∀ x H', J.yld i H x H' → tG G.K tg x σ H' fun σ2 H2 => tDS G W f { E with nx := Nn, ct := Nn, bk := E.nx } σ2 H2) := by
  obtain ⟨Gd, Y, wl, hgd, hy⟩ := wk.ex
  -- what holds between the turns
  let Pv : Nat → L2.St → Hp → Prop := fun i σ' H' => ∃ ρ' w', At G Bd ρ' w' σ' H' ∧ Stp G (owns ρ σ) H H' ∧ (∀ a ∈ owns ρ' σ', a ∈ owns ρ σ ∨ H a = none) ∧ PostS G W Bd ρ' σ' H' (forD tg f (ds.drop i) ρ' w') E
  have keeps : ∀ {H' : Hp}, Stp G (owns ρ σ) H H' → ∀ a o, okA Bd (owns ρ σ) a → H a = some o → H' a = some o := fun s a o ok e => (carryK a0.bd s (A' := owns ρ σ) (fun _ h => .inl h) a o ok e).2
  refine for_it wl (g := tG G.K tg) (tb := tDS G W f) (D := E) Pv ⟨ρ, w, a0, Stp.refl, fun _ h => .inl h, by rw [List.drop_zero]; exact q⟩ (fun i σ' H' hi ⟨ρ', w', a1, s1, _, _⟩ => hgd H' (keeps s1) s1.tup) ?_ ?_
  · rintro i x σ1 H1 H2 hi ⟨ρ1, w1, a1, s1, nb1, q1⟩ y
    obtain ⟨e12, d, hd, hdt⟩ := hy i H1 x H2 hi (keeps s1) s1.tup y
    rw [drop_at hd] at q1
    have dt : Dt G (okA Bd (owns ρ1 σ1)) H2 d x := hdt _ fun a o ok e => (carryK a0.bd s1 nb1 a o ok e).1
    have a2 : At G Bd ρ1 w1 σ1 H2 := a1.ext e12
    unfold forD at q1
    cases e : asgD tg d ρ1 with
    | none => simp only [e] at q1; exact q1.elim
    | some ρ2 =>
      simp only [e] at q1
      refine asg_tg a2 dt e fun σ3 a3 sb3 _ => ⟨Bd, ρ2, w1, a3, ?_⟩
      have s2 : Stp G (owns ρ1 σ1) H1 H2 := e12.stp
      have s13 : Stp G (owns ρ σ) H H2 := s1.trans s2 nb1
      have nb3 : ∀ a ∈ owns ρ2 σ3, a ∈ owns ρ1 σ1 ∨ H1 a = none := fun a ha => .inl (sb3 a ha)
      have nb03 := newold s1 nb1 nb3
      have nxt : ∀ {ρ4 : En} {w4 : DW}, PostS G W Bd ρ1 σ1 H1 (forD tg f (ds.drop (i + 1)) ρ4 w4) E → PostN G Bd ρ2 σ3 H2 ρ4 w4 (Pv (i + 1)) := fun {ρ4 w4} q4 σ4 H4 s4 en4 nb4 dk4 => by
        have s14 : Stp G (owns ρ1 σ1) H1 H4 := s2.trans s4 fun a ha => .inl (sb3 a ha)
        have nb14 : ∀ a ∈ owns ρ4 σ4, a ∈ owns ρ1 σ1 ∨ H1 a = none := newold s2 nb3 nb4
        exact ⟨ρ4, w4, ⟨a0.bd.step (s1.trans s14 nb1), en4, dk4⟩, s1.trans s14 nb1, newold s1 nb1 nb14, PostS.shift s14 nb14 q4⟩
      cases e2 : f ρ2 w1 with
      | nx ρ4 w4 => simp only [e2] at q1; exact nxt q1
      | ct ρ4 w4 => simp only [e2] at q1; exact nxt q1
      | bk ρ4 w4 => simp only [e2] at q1; exact PostN.shift s2 nb3 q1
      | rt d4 w4 => simp only [e2] at q1; exact PostS.shift (r := .rt d4 w4) (E := E) s2 nb3 q1
      | exc x4 ρ4 w4 => simp only [e2] at q1; exact PostS.shift (r := .exc x4 ρ4 w4) (E := E) s2 nb3 q1
      | stuck => simp only [e2] at q1; exact q1
  · rintro σ1 H1 ⟨ρ1, w1, a1, s1, nb1, q1⟩
    rw [List.drop_length] at q1
    exact q1 σ1 H1 Stp.refl a1.en (fun b hb => .inl hb) a1.dk
theorem s_for {tg : Tg} {te it : Expr} {body : List Stmt} {pi : PIt} {pb : PYs} (c : Cxx G P wd base k N sc fa X W) (hi : PI X te it (tDI G W (evI Γ pi))) (hg : PG X te (tG G.K tg)) (hb : PSs X body (tDS G W (exSs Γ pb))) (hs : notSet it = true) :
    PS X (.For te it body [] pos) (tDS G W (exS Γ (.for_ tg pi pb))) := by
  refine PS.weak (ps_for c.po c.calm hi hg hb (fold_of hs _)) fun E σ H ⟨Bd, ρ, w, a0, q⟩ => ?_
  rw [exS_for] at q
  exact ⟨Bd, ρ, w, a0, PostS.bindI a0 q fun ds ρ1 w1 J H1 m wk q1 => for_turns m.at_ wk q1⟩
/-- targets -/
theorem g_names (c : Cxx G P wd base k N sc fa X W) : ∀ {xs : List (Str × Nat)} {es : List Expr}, es.length = xs.length → (∀ (i : Nat) (x : Str × Nat) (e : Expr), xs[i]? = some x → es[i]? = some e → ∃ p : Pos, e = Expr.Name x.1 p ∧ N[x.2]? = some x.1 ∧ locB fa sc x.1 = true) → PGs X es (gNs xs)
  | [], [], _, _ => pgs_nil
  | x :: xs, e :: es, hl, h => by
    obtain ⟨p, he, hi, hx⟩ := h 0 x e rfl rfl
    subst he
    obtain ⟨l1, l2⟩ := loc_of hx
    exact pgs_cons (pg_name (by rw [c.xN]; exact c.nd) (by rw [c.xN]; exact hi) (by rw [c.sc]; exact l1) (l2.imp (fun z => c.fnl z x.1) fun z => by rw [c.sc]; exact z))
      (g_names c (by simpa using hl) fun i y e a b => h (i + 1) y e (by simpa using a) (by simpa using b)) rfl
  | [], _ :: _, hl, _ => by simp at hl
  | _ :: _, [], hl, _ => by simp at hl
end
end DL
set_option maxRecDepth 100000
set_option maxHeartbeats 2000000
set_option linter.all false
namespace DL
open PySem PySem.Spec PyProof.Rows L2
section
variable {G : GC} {P : Program} {wd : World} {base : Heap} {k : Nat} {N : List Str} {sc : Scope} {fa : Bool} {X : Cx} {W : WX} {Γ : Gm} {a b c : Expr} {pos : Pos} {Bd : Addr → Prop} {H H1 H' : Hp} {ρ ρ0 ρ1 : En} {σ σ0 : L2.St} {w w1 : DW}
/-! ### comprehensions -/
theorem wipeE_len (ρ : En) : ∀ vs : List Nat, (wipeE ρ vs).length = ρ.length
  | [] => rfl
  | v :: vs => by unfold wipeE; rw [List.length_set, wipeE_len ρ vs]
theorem backE_len (ρ0 ρ : En) : ∀ vs : List Nat, (backE ρ0 ρ vs).length = ρ.length
  | [] => rfl
  | v :: vs => by unfold backE; rw [List.length_set, backE_len ρ0 ρ vs]
theorem At.wiped {w : DW} (a : At G Bd ρ w σ H) : ∀ vs : List Nat, At G Bd (wipeE ρ vs) w (wipe σ vs) H ∧ ∀ b ∈ owns (wipeE ρ vs) (wipe σ vs), b ∈ owns ρ σ
  | [] => ⟨a, fun _ h => h⟩
  | v :: vs => by
    obtain ⟨a1, s1⟩ := At.wiped a vs
    have sub := owns_set_sub (s := .emp) (fun _ => by intro z; cases z) (ρ := wipeE ρ vs) (σ := wipe σ vs) v none
    exact ⟨⟨a1.bd, a1.en.setEmp v none, a1.dk⟩, fun b hb => s1 b (sub.subset hb)⟩
/-- two slot lists that agree off vs -/
def SameOff (vs : List Nat) (σ σ' : L2.St) : Prop := σ.length = σ'.length ∧ ∀ i, i ∉ vs → σ[i]? = σ'[i]?
theorem SameOff.of_wipe : ∀ {vs : List Nat} {σ σ' : L2.St}, wipe σ vs = wipe σ' vs → SameOff vs σ σ'
  | vs, σ, σ', h => by
    have hl : σ.length = σ'.length := by rw [← wipe_length σ vs, ← wipe_length σ' vs, h]
    have off : ∀ (τ : L2.St) (vs : List Nat) (i : Nat), i ∉ vs → (wipe τ vs)[i]? = τ[i]? := by
      intro τ vs
      induction vs with
      | nil => intro i _; rfl
      | cons v vs ih =>
        intro i hi
        have h1 : v ≠ i := fun e => hi (by rw [e]; exact List.mem_cons_self)
        have h2 : i ∉ vs := fun e => hi (List.mem_cons_of_mem _ e)
        unfold wipe
        rw [List.getElem?_set_ne h1]
        exact ih i h2
    exact ⟨hl, fun i hi => by rw [← off σ vs i hi, ← off σ' vs i hi, h]⟩
theorem backE_off (ρ0 ρ : En) : ∀ {vs : List Nat} {i : Nat}, i ∉ vs → (backE ρ0 ρ vs)[i]? = ρ[i]?
  | [], i, _ => rfl
  | v :: vs, i, hi => by
    have h1 : v ≠ i := fun e => hi (by rw [e]; exact List.mem_cons_self)
    have h2 : i ∉ vs := fun e => hi (List.mem_cons_of_mem _ e)
    unfold backE
    rw [List.getElem?_set_ne h1]
    exact backE_off ρ0 ρ h2
theorem backE_on (ρ0 ρ : En) (hl : ρ0.length = ρ.length) : ∀ {vs : List Nat} {i : Nat}, i ∈ vs → (backE ρ0 ρ vs)[i]? = ρ0[i]?
  | [], i, hi => by simp at hi
  | v :: vs, i, hi => by
    unfold backE
    by_cases h1 : v = i
    · subst h1
      by_cases hv : v < ρ0.length
      · rw [List.getElem?_set_self (by rw [backE_len, ← hl]; exact hv), List.getElem?_eq_getElem hv]
        rfl
      · rw [List.getElem?_eq_none (by rw [List.length_set, backE_len, ← hl]; omega), List.getElem?_eq_none (by omega)]
    · rw [List.getElem?_set_ne h1]
      exact backE_on ρ0 ρ hl ((List.mem_cons.mp hi).resolve_left fun e => h1 e.symm)
theorem free_get {vs : List Nat} (h : free ρ vs = true) {i : Nat} (hi : i ∈ vs) : ∃ s, ρ[i]? = some s ∧ ∀ d, s ≠ .own d := by
  have q := (List.all_eq_true.mp h) i hi
  cases e : ρ[i]? with
  | none => rw [e] at q; exact absurd q Bool.false_ne_true
  | some s =>
    refine ⟨s, rfl, fun d z => ?_⟩
    rw [e, z] at q
    exact absurd q Bool.false_ne_true
theorem owns_iff : ∀ {ρ : En} {σ : L2.St} {a : Addr}, a ∈ owns ρ σ ↔ ∃ (i : Nat) (d : D), ρ[i]? = some (Sl.own d) ∧ σ[i]? = some (some (V.ref a)) :=
  ⟨fun h => owns_mem (ok := fun _ => True) h, fun ⟨_, _, h1, h2⟩ => mem_owns h1 h2⟩
theorem EnDs.mk {ok : Addr → Prop} : ∀ {ρ : En} {σ : L2.St}, ρ.length = σ.length → (∀ (i : Nat) s o, ρ[i]? = some s → σ[i]? = some o → SlD G ok H s o) → EnDs G ok H ρ σ
  | [], [], _, _ => trivial
  | s :: ρ, o :: σ, hl, h => ⟨h 0 s o rfl rfl, EnDs.mk (by simpa using hl) fun i t p a b => h (i + 1) t p (by simpa using a) (by simpa using b)⟩
  | [], _ :: _, hl, _ => by simp at hl
  | _ :: _, [], hl, _ => by simp at hl
/-- the owned addresses are apart, slot by slot -/
theorem owns_nodup_iff : ∀ {ρ : En} {σ : L2.St}, (owns ρ σ).Nodup ↔ ∀ (i j : Nat) (a : Addr) d e, ρ[i]? = some (Sl.own d) → σ[i]? = some (some (V.ref a)) → ρ[j]? = some (Sl.own e) → σ[j]? = some (some (V.ref a)) → i = j
  | [], σ => ⟨fun _ i j a d e h => by simp at h, fun _ => by simp [owns]⟩
  | s :: ρ, [] => ⟨fun _ i j a d e _ h => by simp at h, fun _ => by rw [owns_nil_r]; exact List.nodup_nil⟩
  | s :: ρ, o :: σ => by
    have ih := owns_nodup_iff (ρ := ρ) (σ := σ)
    by_cases hs : ∃ d a, s = .own d ∧ o = some (.ref a)
    · obtain ⟨d0, a0, rfl, rfl⟩ := hs
      show (a0 :: owns ρ σ).Nodup ↔ _
      rw [List.nodup_cons, ih]
      constructor
      · rintro ⟨n, h⟩ i j a d e h1 h2 h3 h4
        cases i with
        | zero =>
          cases j with
          | zero => rfl
          | succ j =>
            exfalso
            have : a0 = a := by simpa using h2
            subst this
            exact n (mem_owns (i := j) (d := e) (by simpa using h3) (by simpa using h4))
        | succ i =>
          cases j with
          | zero =>
            exfalso
            have : a0 = a := by simpa using h4
            subst this
            exact n (mem_owns (i := i) (d := d) (by simpa using h1) (by simpa using h2))
          | succ j => exact congrArg (· + 1) (h i j a d e (by simpa using h1) (by simpa using h2) (by simpa using h3) (by simpa using h4))
      · intro h
        refine ⟨fun hm => ?_, fun i j a d e h1 h2 h3 h4 => ?_⟩
        · obtain ⟨j, e, h3, h4⟩ := owns_iff.mp hm
          have := h 0 (j + 1) a0 d0 e rfl rfl (by simpa using h3) (by simpa using h4)
          omega
        · have := h (i + 1) (j + 1) a d e (by simpa using h1) (by simpa using h2) (by simpa using h3) (by simpa using h4)
          omega
    · have e0 : owns (s :: ρ) (o :: σ) = owns ρ σ := by
        cases s with
        | emp => rfl
        | dat d => rfl
        | own d =>
          cases o with
          | none => rfl
          | some v => cases v <;> first | rfl | exact absurd ⟨_, _, rfl, rfl⟩ hs
      rw [e0, ih]
      constructor
      · intro h i j a d e h1 h2 h3 h4
        cases i with
        | zero => exact absurd ⟨d, a, by simpa using h1, by simpa using h2⟩ hs
        | succ i =>
          cases j with
          | zero => exact absurd ⟨e, a, by simpa using h3, by simpa using h4⟩ hs
          | succ j => exact congrArg (· + 1) (h i j a d e (by simpa using h1) (by simpa using h2) (by simpa using h3) (by simpa using h4))
      · intro h i j a d e h1 h2 h3 h4
        have := h (i + 1) (j + 1) a d e (by simpa using h1) (by simpa using h2) (by simpa using h3) (by simpa using h4)
        omega
/-- a block's own slots are put back -/
theorem At.back {vs : List Nat} {σ2 : L2.St} {ρ3 : En} {w3 : DW} (a : At G Bd ρ w σ H) (hf : free ρ vs = true) (a3 : At G Bd ρ3 w3 σ2 H1) (hw : wipe σ2 vs = wipe σ vs) (s : Stp G (owns ρ σ) H H1) (nb : ∀ b ∈ owns ρ3 σ2, b ∈ owns ρ σ ∨ H b = none) :
    At G Bd (backE ρ ρ3 vs) w3 σ H1 ∧ ∀ b ∈ owns (backE ρ ρ3 vs) σ, b ∈ owns ρ3 σ2 := by
  have so := SameOff.of_wipe hw
  have l0 := a.en.sl.length
  have l3 := a3.en.sl.length
  have hl : ρ.length = ρ3.length := by rw [l0, l3, so.1]
  -- an owned slot of the restored list is one of the block's
  have own : ∀ {i : Nat} {d : D}, (backE ρ ρ3 vs)[i]? = some (.own d) → i ∉ vs ∧ ρ3[i]? = some (.own d) := fun {i d} h => by
    by_cases hi : i ∈ vs
    · rw [backE_on ρ ρ3 hl hi] at h
      obtain ⟨t, h1, h2⟩ := free_get hf hi
      rw [h1] at h
      cases h
      exact absurd rfl (h2 d)
    · rw [backE_off ρ ρ3 hi] at h
      exact ⟨hi, h⟩
  have sub : ∀ b ∈ owns (backE ρ ρ3 vs) σ, b ∈ owns ρ3 σ2 := fun b hb => by
    obtain ⟨i, d, h1, h2⟩ := owns_iff.mp hb
    obtain ⟨hi, h3⟩ := own h1
    exact owns_iff.mpr ⟨i, d, h3, by rw [so.2 i hi]; exact h2⟩
  refine ⟨⟨a3.bd, ⟨EnDs.mk (by rw [backE_len, l3, so.1]) fun i t o h1 h2 => ?_, ?_, fun b hb => a3.en.nb b (sub b hb)⟩, a3.dk⟩, sub⟩
  · by_cases hi : i ∈ vs
    · rw [backE_on ρ ρ3 hl hi] at h1
      obtain ⟨t', h3, h4⟩ := free_get hf hi
      rw [h3] at h1
      cases h1
      obtain ⟨o', h5, h6⟩ := a.en.sl.get h3
      rw [h2] at h5
      cases h5
      cases t with
      | emp => trivial
      | own d => exact absurd rfl (h4 d)
      | dat d =>
        obtain ⟨v, h7, h8⟩ := h6
        refine ⟨v, h7, h8.mono (fun b u k e => ?_) s.tup⟩
        exact carryK a.bd s (fun b hb => nb b (sub b hb)) b u k e
    · rw [backE_off ρ ρ3 hi] at h1
      obtain ⟨o', h5, h6⟩ := a3.en.sl.get h1
      rw [so.2 i hi, h2] at h5
      cases h5
      cases t with
      | emp => trivial
      | dat d =>
        obtain ⟨v, h7, h8⟩ := h6
        exact ⟨v, h7, h8.mono (fun b u k e => ⟨okA_sub sub k, e⟩) fun _ _ e => e⟩
      | own d =>
        obtain ⟨v, h7, h8⟩ := h6
        exact ⟨v, h7, h8.mono (fun b u k e => ⟨okA_sub sub k, e⟩) (fun _ _ e => e) rfl⟩
  · refine owns_nodup_iff.mpr fun i j b d e h1 h2 h3 h4 => ?_
    obtain ⟨hi, h5⟩ := own h1
    obtain ⟨hj, h6⟩ := own h3
    exact owns_nodup_iff.mp a3.en.nd i j b d e h5 (by rw [so.2 i hi]; exact h2) h6 (by rw [so.2 j hj]; exact h4)
end
end DL
set_option maxRecDepth 100000
set_option maxHeartbeats 2000000
set_option linter.all false
namespace DL
open PySem PySem.Spec PyProof.Rows L2
section
variable {G : GC} {P : Program} {wd : World} {base : Heap} {k : Nat} {N : List Str} {sc : Scope} {fa : Bool} {X : Cx} {W : WX} {Γ : Gm} {a b c : Expr} {pos : Pos} {Bd : Addr → Prop} {H H1 H' : Hp} {ρ ρ0 ρ1 : En} {σ σ0 : L2.St} {w w1 : DW}
def WF : WX := fun _ _ _ _ => False
/-- the bounds with one more object -/
abbrev Bd1 (Bd : Addr → Prop) (c : Addr) : Addr → Prop := fun a => Bd a ∨ a = c
theorem At.more {c : Addr} (a : At G Bd ρ w σ H) (hc : H c ≠ none) (hn : ∀ o, H c = some o → ∀ ok d, OwD G ok H d c → c ∉ owns ρ σ) (hk : c ∉ owns ρ σ)
    (hs : EnDs G (okA (Bd1 Bd c) (owns ρ σ)) H ρ σ) : At G (Bd1 Bd c) ρ w σ H := ⟨⟨.inl a.bd.dk, .inl a.bd.gl, fun b hb => by
  rcases hb with z | z
  · exact a.bd.there b z
  · rw [z]
    exact hc⟩, ⟨hs, a.en.nd, fun b hb => fun z => by
  rcases z with z | z
  · exact a.en.nb b hb z
  · exact hk (by rw [← z]; exact hb)⟩, a.dk⟩
/-- a new object is laid beside the slots -/
theorem At.beside {c : Addr} {o : HO} (a : At G Bd ρ w σ H) (hc : H c = none) : At G (Bd1 Bd c) ρ w σ (upd H c o) ∧ c ∉ owns ρ σ := by
  have e := Ext.new (o := o) hc
  have nc : c ∉ owns ρ σ := fun z => owned_there a z hc
  refine ⟨⟨⟨.inl a.bd.dk, .inl a.bd.gl, fun b hb => ?_⟩, ⟨?_, a.en.nd, fun b hb z => ?_⟩, a.dk.ext e⟩, nc⟩
  · rcases hb with z | z
    · intro q
      by_cases hbc : b = c
      · rw [hbc, upd_same] at q
        cases q
      · rw [upd_ne hbc] at q
        exact a.bd.there b z q
    · rw [z, upd_same]
      simp
  · refine a.en.sl.mono (fun b u k q => ⟨⟨fun z => ?_, k.2⟩, e b u q⟩) (fun b xs q => e b _ q) fun b hb => upd_ne fun z => nc (by rw [← z]; exact hb)
    rcases z with z | z
    · exact k.1 z
    · rw [z, hc] at q
      cases q
  · rcases z with z | z
    · exact a.en.nb b hb z
    · exact nc (by rw [← z]; exact hb)
/-- the object beside the slots is changed -/
theorem At.put {c : Addr} {o u : HO} (a : At G (Bd1 Bd c) ρ w σ H) (hd : ¬ (c = G.dk)) (hg : ¬ (c = G.gl)) (hu : H c = some u) (ht : ∀ xs, u ≠ .tup xs) : At G (Bd1 Bd c) ρ w σ (upd H c o) := by
  refine ⟨⟨a.bd.dk, a.bd.gl, fun b hb => ?_⟩, ⟨?_, a.en.nd, a.en.nb⟩, ⟨?_, ?_⟩⟩
  · by_cases z : b = c
    · rw [z, upd_same]
      simp
    · rw [upd_ne z]
      exact a.bd.there b hb
  · refine a.en.sl.mono (fun b v k q => ⟨k, ?_⟩) (fun b xs q => ?_) fun b hb => upd_ne fun z => a.en.nb b hb (.inr z)
    · rw [upd_ne fun z => k.1 (.inr z)]
      exact q
    · rw [upd_ne fun z => by subst z; rw [hu] at q; cases q; exact ht xs rfl]
      exact q
  · rw [upd_ne fun z => hd z.symm]
    exact a.dk.dk
  · rw [upd_ne fun z => hg z.symm]
    exact a.dk.gl
theorem At.less {c : Addr} (a : At G (Bd1 Bd c) ρ w σ H) (hb : BdOk G Bd H) : At G Bd ρ w σ H := ⟨hb, ⟨a.en.sl.mono (fun b o k e => ⟨⟨fun z => k.1 (.inl z), k.2⟩, e⟩) (fun _ _ e => e) fun _ _ => rfl, a.en.nd, fun b hb z => a.en.nb b hb (.inl z)⟩, a.dk⟩
/-- the turns of a comprehension -/
theorem lc_turns {tg : Tg} {vs : List Nat} {t : En → DW → R Bool} {f : En → DW → R D} {ds : List D} {J : It} {Q : VK} (a0 : At G Bd ρ w σ H) (wk : WalkD G (okA Bd (owns ρ σ)) H J ds)
    (q : PostF G W Bd ρ σ H ((lcD tg vs t f ds [] ρ w).bind fun xs ρ w => .ok (.lst xs) ρ w) Q) (hvs : ∀ i ∈ tgIx tg, i ∈ vs) :
    ∀ Dl, H Dl = none → ∃ Wv : Nat → Nat → Hp → Prop, (∃ m, Wv 0 m (upd H Dl (.lst []))) ∧ ∀ i m H, Wv i m H →
      (J.stop i H ∧ Q (.ref Dl) H) ∨ (J.go i H ∧ ∃ Nx : Hp → Prop, (∀ H', Nx H' → ∃ m', m' < m ∧ Wv (i + 1) m' H') ∧ ∀ x H', J.yld i H x H' → tG G.K tg x (wipe σ vs) H' fun σ2 H2 => wipe σ2 vs = wipe σ vs ∧ tDT G WF t σ2 H2 fun b H3 =>
        if b = true then tD G WF f σ2 H3 fun y H4 => ∃ acc, H4 Dl = some (.lst acc) ∧ acc.length < sizeLine ∧ Nx (upd H4 Dl (.lst (acc ++ [y]))) else Nx H3) := by
  intro Dl hDl
  obtain ⟨Gd, Y, wl, hgd, hy⟩ := wk.ex
  have hdk : ¬ (Dl = G.dk) := fun z => by rw [z, a0.dk.dk] at hDl; cases hDl
  have hgl : ¬ (Dl = G.gl) := fun z => by rw [z, a0.dk.gl] at hDl; cases hDl
  let Pv : Nat → Hp → Prop := fun i H' => ∃ ρ' w' acc ac, At G (Bd1 Bd Dl) ρ' w' σ H' ∧ Stp G (owns ρ σ) H H' ∧ (∀ a ∈ owns ρ' σ, a ∈ owns ρ σ ∨ H a = none) ∧ (∀ a ∈ owns ρ' σ, a ∈ owns ρ σ) ∧ H' Dl = some (.lst ac) ∧ DtL G (okA (Bd1 Bd Dl) (owns ρ' σ)) H' acc ac ∧
    PostF G W Bd ρ σ H ((lcD tg vs t f (ds.drop i) acc ρ' w').bind fun xs ρ w => .ok (.lst xs) ρ w) Q
  have keeps : ∀ {H' : Hp}, Stp G (owns ρ σ) H H' → ∀ a o, okA Bd (owns ρ σ) a → H a = some o → H' a = some o := fun s a o ok e => (carryK a0.bd s (A' := owns ρ σ) (fun _ h => .inl h) a o ok e).2
  obtain ⟨ab, nDl⟩ := a0.beside (o := .lst []) hDl
  refine lc_it wl (g := tG G.K tg) (tt := tDT G WF t) (te := tD G WF f) (vs := vs) (σ := σ) (D := Dl) (Qd := fun H => Q (.ref Dl) H) Pv ⟨ρ, w, [], [], ab, (Ext.new hDl).stp, fun _ h => .inl h, fun _ h => h, upd_same, rfl, by rw [List.drop_zero]; exact q⟩ (fun i H' hi ⟨ρ', w', acc, ac, a1, s1, _⟩ => hgd H' (keeps s1) s1.tup) ?_ ?_
  · rintro i x H1 H2 hi ⟨ρ1, w1, acc, ac, a1, s1, nb1, sb1, hac, dac, q1⟩ y
    obtain ⟨e12, d, hd, hdt⟩ := hy i H1 x H2 hi (keeps s1) s1.tup y
    rw [drop_at hd] at q1
    have dt : Dt G (okA (Bd1 Bd Dl) (owns ρ1 σ)) H2 d x := hdt _ fun a o ok e => by
      have c1 := carryK a0.bd s1 nb1 a o ok e
      refine ⟨fun z => ?_, c1.1.2⟩
      rcases z with z | z
      · exact c1.1.1 z
      · rw [z, hDl] at e
        cases e
    have a2 : At G (Bd1 Bd Dl) ρ1 w1 σ H2 := a1.ext e12
    unfold lcD at q1
    cases hf : free ρ1 vs with
    | false => simp only [hf] at q1; exact q1.elim
    | true =>
      simp only [hf, if_true] at q1
      obtain ⟨aw, sw⟩ := a2.wiped vs
      cases e : asgD tg d (wipeE ρ1 vs) with
      | none => simp only [e] at q1; exact q1.elim
      | some ρ2 =>
        simp only [e] at q1
        have dtw : Dt G (okA (Bd1 Bd Dl) (owns (wipeE ρ1 vs) (wipe σ vs))) H2 d x := dt.mono (fun b o k e => ⟨okA_sub sw k, e⟩) fun _ _ e => e
        refine asg_tg aw dtw e fun σ3 a3 sb3 hw => ?_
        have hw3 : wipe σ3 vs = wipe σ vs := (hw vs hvs).trans (wipe_wipe vs σ)
        have sb31 : ∀ b ∈ owns ρ2 σ3, b ∈ owns ρ1 σ := fun b hb => sw b (sb3 b hb)
        refine ⟨hw3, Bd1 Bd Dl, ρ2, w1, a3, ?_⟩
        -- the list stands through the turn
        have stands : ∀ {Ha Hb : Hp} {ρa : En} {σa : L2.St} {wa : DW}, At G (Bd1 Bd Dl) ρa wa σa Ha → Stp G (owns ρa σa) Ha Hb → Ha Dl = some (.lst ac) → Hb Dl = some (.lst ac) := fun aa s h => s.keep Dl _ h (fun z => aa.en.nb Dl z (.inr rfl)) hdk hgl
        have hac2 := e12 Dl _ hac
        cases et : t ρ2 w1 with
        | stuck => simp only [et] at q1; exact q1.elim
        | exc x4 ρ4 w4 => simp only [et] at q1; exact q1.elim
        | ok b ρ3 w3 =>
          simp only [et] at q1
          intro H3 s3 en3 sb33 dk3
          have a4 : At G (Bd1 Bd Dl) ρ3 w3 σ3 H3 := a3.step s3 en3 dk3
          have hac3 := stands a3 s3 hac2
          have s23 : Stp G (owns ρ1 σ) H2 H3 := s3.sub sb31
          cases b with
          | false =>
            simp only at q1
            show Pv (i + 1) H3
            obtain ⟨a5, sb5⟩ := a2.back hf a4 hw3 s23 fun b hb => .inl (sb31 b (sb33 b hb))
            have sb51 : ∀ b ∈ owns (backE ρ1 ρ3 vs) σ, b ∈ owns ρ1 σ := fun b hb => sb31 b (sb33 b (sb5 b hb))
            refine ⟨_, w3, acc, ac, a5, s1.trans (e12.stp.trans s23 fun b hb => .inl hb) nb1, fun b hb => nb1 b (sb51 b hb), fun b hb => sb1 b (sb51 b hb), hac3, ?_, q1⟩
            exact (dac.ext e12).carry a2.bd s23 fun b hb => .inl (sb51 b hb)
          | true =>
            simp only at q1
            show tD G WF f σ3 H3 _
            refine ⟨Bd1 Bd Dl, ρ3, w3, a4, ?_⟩
            cases ef : f ρ3 w3 with
            | stuck => simp only [ef] at q1; exact q1.elim
            | exc x4 ρ4 w4 => simp only [ef] at q1; exact q1.elim
            | ok y ρ4 w4 =>
              simp only [ef] at q1
              by_cases hl : acc.length < 100000
              · simp only [hl, if_true] at q1
                intro v H4 s4 en4 sb4 dk4 dv
                have a6 : At G (Bd1 Bd Dl) ρ4 w4 σ3 H4 := a4.step s4 en4 dk4
                have hac4 := stands a4 s4 hac3
                have sb41 : ∀ b ∈ owns ρ4 σ3, b ∈ owns ρ1 σ := fun b hb => sb31 b (sb33 b (sb4 b hb))
                have s24 : Stp G (owns ρ1 σ) H2 H4 := s23.trans s4 fun b hb => .inl (sb31 b (sb33 b hb))
                obtain ⟨a5, sb5⟩ := a2.back hf a6 hw3 s24 fun b hb => .inl (sb41 b hb)
                have sb51 : ∀ b ∈ owns (backE ρ1 ρ4 vs) σ, b ∈ owns ρ1 σ := fun b hb => sb41 b (sb5 b hb)
                have a7 := a5.put (o := .lst (ac ++ [v])) hdk hgl hac4 (fun xs z => by cases z)
                have hacl : acc.length = ac.length := dac.length
                refine ⟨ac, hac4, Nat.lt_of_lt_of_le (by rw [← hacl]; exact hl) (by decide), _, w4, acc ++ [y], ac ++ [v], a7, ?_, fun b hb => nb1 b (sb51 b hb), fun b hb => sb1 b (sb51 b hb), upd_same, ?_, q1⟩
                · have s04 : Stp G (owns ρ σ) H H4 := s1.trans (e12.stp.trans s24 fun b hb => .inl hb) nb1
                  refine ⟨fun b o e n d g => ?_, fun b xs e => ?_, fun b e => ?_⟩
                  · rw [upd_ne fun z => by rw [z, hDl] at e; cases e]
                    exact s04.keep b o e n d g
                  · rw [upd_ne fun z => by rw [z, hDl] at e; cases e]
                    exact s04.tup b xs e
                  · rw [upd_ne fun z => by rw [z] at e; exact e hDl]
                    exact s04.stay b e
                · have keepU : ∀ b o, okA (Bd1 Bd Dl) (owns (backE ρ1 ρ4 vs) σ) b → H4 b = some o → okA (Bd1 Bd Dl) (owns (backE ρ1 ρ4 vs) σ) b ∧ upd H4 Dl (.lst (ac ++ [v])) b = some o := fun b o k e => ⟨k, by
                    rw [upd_ne fun z => k.1 (.inr z)]
                    exact e⟩
                  have keepT : ∀ b xs, H4 b = some (.tup xs) → upd H4 Dl (.lst (ac ++ [v])) b = some (.tup xs) := fun b xs e => by
                    rw [upd_ne fun z => by rw [z, hac4] at e; cases e]
                    exact e
                  have d1 : DtL G (okA (Bd1 Bd Dl) (owns (backE ρ1 ρ4 vs) σ)) H4 acc ac := (dac.ext e12).carry a2.bd s24 fun b hb => .inl (sb51 b hb)
                  have d2 : Dt G (okA (Bd1 Bd Dl) (owns (backE ρ1 ρ4 vs) σ)) H4 y v := dv.mono (fun b o k e => ⟨okA_sub sb5 k, e⟩) fun _ _ e => e
                  exact (d1.mono keepU keepT).append (.cons (d2.mono keepU keepT) .nil)
              · simp only [hl, if_false] at q1
                exact q1.elim
  · rintro H1 ⟨ρ1, w1, acc, ac, a1, s1, nb1, sb1, hac, dac, q1⟩
    rw [List.drop_length] at q1
    unfold lcD at q1
    simp only [R.bind] at q1
    let Hm : Hp := fun b => if b = Dl then none else H1 b
    have hm : ∀ b, b ≠ Dl → Hm b = H1 b := fun b hb => if_neg hb
    have hmD : Hm Dl = none := if_pos rfl
    have ext : Ext Hm H1 := fun b o e => by
      by_cases hb : b = Dl
      · rw [hb, hmD] at e
        cases e
      · rw [← hm b hb]
        exact e
    refine q1 Dl Hm H1 ⟨fun b o e n d g => ?_, fun b xs e => ?_, fun b e => ?_⟩ ⟨?_, a1.en.nd, fun b hb z => a1.en.nb b hb (.inl z)⟩ sb1 ⟨?_, ?_⟩ hmD ext ⟨ac, hac, ?_⟩
    · rw [hm b fun z => by rw [z, hDl] at e; cases e]
      exact s1.keep b o e n d g
    · rw [hm b fun z => by rw [z, hDl] at e; cases e]
      exact s1.tup b xs e
    · rw [hm b fun z => by rw [z] at e; exact e hDl]
      exact s1.stay b e
    · refine a1.en.sl.mono (fun b o k e => ⟨⟨fun z => k.1 (.inl z), k.2⟩, ?_⟩) (fun b xs e => ?_) fun b hb => hm b fun z => a1.en.nb b hb (.inr z)
      · rw [hm b fun z => k.1 (.inr z)]
        exact e
      · rw [hm b fun z => by rw [z, hac] at e; cases e]
        exact e
    · rw [hm _ fun z => hdk z.symm]
      exact a1.dk.dk
    · rw [hm _ fun z => hgl z.symm]
      exact a1.dk.gl
    · exact dac.mono (fun b o k e => ⟨⟨⟨fun z => k.1 (.inl z), k.2⟩, fun z => k.1 (.inr z)⟩, e⟩) fun _ _ e => e
end
end DL
set_option maxRecDepth 100000
set_option maxHeartbeats 2000000
set_option linter.all false
namespace DL
open PySem PySem.Spec PyProof.Rows L2
section
variable {G : GC} {P : Program} {wd : World} {base : Heap} {k : Nat} {N : List Str} {sc : Scope} {fa : Bool} {X : Cx} {W : WX} {Γ : Gm} {a b c : Expr} {pos : Pos} {Bd : Addr → Prop} {H H1 H' : Hp} {ρ ρ0 ρ1 : En} {σ σ0 : L2.St} {w w1 : DW}
theorem pa_of {es : List Expr} {fs : List (En → DW → R D)} (h : PEs X G W es fs) : PA X es (tDL G W (seqL fs)) := by
  induction h with
  | nil => exact PA.weak pa_nil fun σ H Q ⟨Bd, ρ, w, a, q⟩ => q [] H Stp.refl a.en (fun _ h => h) a.dk rfl
  | cons he hs r ih =>
    refine PA.weak (pa_cons he ih (starEach_of hs _ _)) fun σ H Q ⟨Bd, ρ, w, a, q⟩ => ?_
    refine ⟨Bd, ρ, w, a, PostL.bind a q fun d ρ1 w1 v H1 m r q1 => ?_⟩
    refine ⟨Bd, ρ1, w1, m.at_, PostL.bindL m.at_ q1 fun ds ρ2 w2 vs H2 m2 r2 q2 => ?_⟩
    exact q2 (v :: vs) H2 Stp.refl m2.at_.en (fun _ h => h) m2.at_.dk (.cons (Dt.carry m.at_.bd m2.stp (fun a ha => .inl (m2.sub a ha)) r) r2)
theorem PEs.stars {es : List Expr} {fs : List (En → DW → R D)} (h : PEs X G W es fs) : es.all notStar = true := by
  induction h with
  | nil => rfl
  | cons _ hs _ ih => simp [hs, ih]
theorem PEs.len {es : List Expr} {fs : List (En → DW → R D)} (h : PEs X G W es fs) : es.length = fs.length := by
  induction h with
  | nil => rfl
  | cons _ _ _ ih => simp [ih]
/-! ### built-in calls -/
theorem callB_run {x : Str} {p : Pos} {val : Value} {pins : List (Addr × Obj)} {s : Shared} {Q : Value → Shared → Prop} {R : List Value → Shared → Prop} (c : Cxx G P wd base k N sc fa X W) (I : Inv X pins σ H s) (hg : glB sc x = true) (hn : plainN x = true) (hm : G.mg x = none) (hv : bootBuiltins x = some val) (hb : IsB val) {e : Expr} {es : List Expr}
    (hst : (e :: es).all notStar = true) (h : wpAny (model X.prog X.w) X.A (spliced (backTo pos (starEach (e :: es) X.env))) R X.xe s) (hc : ∀ us s1, R us s1 → wpAny (model X.prog X.w) X.A (call val us) Q X.xe s1) :
    wpAny (model X.prog X.w) X.A (eval (.Call (.Name x p) (e :: es) [] pos) X.env) Q X.xe s := by
  simp only [List.all_cons, Bool.and_eq_true] at hst
  refine wpAny_Call_Name_kw (ld_blt I (c.gl hg) (glob_of c hm) hv ?_ (plainN_of hn).2.2 (plainN_of hn).1)
  rcases hb with ⟨id, rfl⟩ | ⟨T, rfl⟩
  · exact PyProof.Rows.callWith_builtin1 (thn h hc) (starEach_of hst.1 _ _) (args_plain hst.2 _ _)
  · exact PyProof.Rows.callWith_type1 (thn h hc) (starEach_of hst.1 _ _) (args_plain hst.2 _ _)
theorem c_b1 {f : Str} {p : Pos} {e : Expr} {fe : En → DW → R D} {F : D → DW → RW} (M : GmOk G P wd base k Γ) (c : Cxx G P wd base k N sc fa X W) (hg : glB sc f = true) (hn : plainN f = true) (hF : Γ.b1 f = some F) (he : PE X e (tDB G W fe)) (hst : notStar e = true) :
    PE X (.Call (.Name f p) [e] [] pos) (tD G W fun ρ w => (fe ρ w).bind fun x ρ w => (F x w).at ρ) := by
  obtain ⟨val, h1, h2, h3, h4⟩ := M.b1 f F hF
  refine ⟨fun pins s σ H Q I ⟨Bd, ρ, w, a, q⟩ => ?_⟩
  refine callB_run (R := fun us s1 => ∃ u x H1, us = [u] ∧ RelV x u ∧ Inv X pins σ H1 s1 ∧ After1 G W (fun x ρ w => (F x w).at ρ) σ x H1 Q) c I hg hn h1 h2 h3 (by simp [hst]) ?_ ?_
  · refine thn ((pa_cons he pa_nil (starEach_of hst _ _)).run pos pins s σ H (fun vs H1 => ∃ x, vs = [x] ∧ After1 G W (fun x ρ w => (F x w).at ρ) σ x H1 Q) I ⟨Bd, ρ, w, a, PostE.bind a q fun d ρ1 w1 v H1 m r q1 => ⟨v, rfl, Bd, ρ1, w1, d, m.at_, r, q1⟩⟩) fun us s1 ⟨vs, H1, I1, r1, x, e1, q1⟩ => ?_
    subst e1
    obtain ⟨u, e2, r2⟩ := vals1 r1
    exact ⟨u, x, H1, e2, r2, I1, q1⟩
  · rintro us s1 ⟨u, x, H1, rfl, r1, I1, q1⟩
    exact h4 X W c.toCxy pins s1 σ H1 x u Q I1 r1 q1
theorem c_bF {f : Str} {p : Pos} {e : Expr} {fe : En → DW → R D} {F : D → Option D} (M : GmOk G P wd base k Γ) (c : Cxx G P wd base k N sc fa X W) (hg : glB sc f = true) (hn : plainN f = true) (hF : Γ.bF f = some F) (he : PE X e (tDB G W fe)) (hst : notStar e = true) :
    PE X (.Call (.Name f p) [e] [] pos) (tDF G W fun ρ w => (fe ρ w).bind fun x ρ w => R.of (F x) ρ w) := by
  obtain ⟨val, h1, h2, h3, h4⟩ := M.bF f F hF
  refine ⟨fun pins s σ H Q I ⟨Bd, ρ, w, a, q⟩ => ?_⟩
  refine callB_run (R := fun us s1 => ∃ vs H1, Inv X pins σ H1 s1 ∧ Vals vs us ∧ ∃ x, vs = [x] ∧ PureF G F x H1 Q) c I hg hn h1 h2 h3 (by simp [hst]) ?_ ?_
  · have body : tDB G W fe σ H fun x H1 => PureF G F x H1 Q := by
      refine ⟨Bd, ρ, w, a, ?_⟩
      have q : PostF G W Bd ρ σ H ((fe ρ w).bind fun x ρ w => R.of (F x) ρ w) Q := q
      cases ee : fe ρ w with
      | stuck => rw [ee] at q; exact q.elim
      | exc x ρ1 w1 => rw [ee] at q; exact q
      | ok d ρ1 w1 =>
        rw [ee] at q
        simp only [R.bind] at q
        intro v H1 s1 en sb dk r
        cases eF : F d with
        | none => simp only [eF, R.of] at q; exact q.elim
        | some e' =>
          simp only [eF, R.of] at q
          have a1 : At G Bd ρ1 w1 σ H1 := a.step s1 en dk
          exact ⟨_, d, e', r, eF, fun b hb => fresh_ok a1 hb, fun ad H2 hn he ow => q ad H1 H2 s1 en sb dk hn he ow⟩
    refine thn ((pa_cons he pa_nil (starEach_of hst _ _)).run pos pins s σ H (fun vs H1 => ∃ x, vs = [x] ∧ PureF G F x H1 Q) I (show tCons _ tNil σ H _ from ?_)) fun us s1 ⟨vs, H1, I1, r1, x, e1, q1⟩ => ⟨vs, H1, I1, r1, x, e1, q1⟩
    obtain ⟨Bd', ρ', w', a', q'⟩ := body
    refine ⟨Bd', ρ', w', a', ?_⟩
    cases ee : fe ρ' w' with
    | stuck => rw [ee] at q'; exact q'
    | exc x ρ1 w1 => rw [ee] at q'; exact q'
    | ok d ρ1 w1 =>
      rw [ee] at q'
      exact fun v H1 s1 en sb dk r => ⟨v, rfl, q' v H1 s1 en sb dk r⟩
  · rintro us s1 ⟨vs, H1, I1, r1, hx⟩
    exact h4 X W c.toCxy pins s1 σ H1 vs us Q I1 r1 hx
theorem c_bn {f : Str} {p : Pos} {e : Expr} {es : List Expr} {fs : List (En → DW → R D)} {F : List D → Option D} (M : GmOk G P wd base k Γ) (c : Cxx G P wd base k N sc fa X W) (hg : glB sc f = true) (hn : plainN f = true) (hF : Γ.bn f = some F) (he : PEs X G W (e :: es) fs) :
    PE X (.Call (.Name f p) (e :: es) [] pos) (tD G W (bnD (some F) (seqL fs))) := by
  obtain ⟨val, h1, h2, h3, h4⟩ := M.bn f F hF
  refine ⟨fun pins s σ H Q I ⟨Bd, ρ, w, a, q⟩ => ?_⟩
  refine callB_run (R := fun us s1 => ∃ vs H1, Inv X pins σ H1 s1 ∧ Vals vs us ∧ PureL G F vs H1 Q) c I hg hn h1 h2 h3 he.stars ?_ ?_
  · refine thn ((pa_of he).run pos pins s σ H (fun vs H1 => PureL G F vs H1 Q) I ⟨Bd, ρ, w, a, PostE.bindL a q fun ds ρ1 w1 vs H1 m r q1 => ?_⟩) fun us s1 ⟨vs, H1, I1, r1, q1⟩ => ⟨vs, H1, I1, r1, q1⟩
    cases eF : F ds with
    | none => simp only [eF, R.of] at q1; exact q1.elim
    | some e' =>
      simp only [eF, R.of] at q1
      exact ⟨_, ds, e', r, eF, fun b hb => fresh_ok m.at_ hb, fun v H2 ex dt => PostE.next m.at_ q1 ex dt⟩
  · rintro us s1 ⟨vs, H1, I1, r1, hx⟩
    exact h4 X W c.toCxy pins s1 σ H1 vs us Q I1 r1 hx
theorem c_sset {p1 p2 p3 : Pos} {e : Expr} {fe : En → DW → R D} {F : D → Option D} (M : GmOk G P wd base k Γ) (c : Cxx G P wd base k N sc fa X W) (hg : glB sc "sorted" = true) (hg2 : glB sc "set" = true) (hF : Γ.sset = some F) (he : PE X e (tDB G W fe)) (hst : notStar e = true) :
    PE X (.Call (.Name "sorted" p1) [.Call (.Name "set" p2) [e] [] p3] [] pos) (tDF G W (ssetD (some F) fe)) := by
  obtain ⟨h1, h2, h3⟩ := M.sset F hF
  refine ⟨fun pins s σ H Q I ⟨Bd, ρ, w, a, q⟩ => ?_⟩
  refine wpAny_Call_Name_kw (ld_blt I (c.gl hg) (glob_of c h1) (u := .builtin "sorted") (by decide +kernel) ?_ (by decide +kernel) (by decide +kernel))
  refine PyProof.Rows.callWith_builtin1 (PyProof.Rows.args_cons ?_ rfl) rfl rfl
  refine wpAny_Call_Name_kw (ld_blt I (c.gl hg2) (glob_of c h2) (u := .type "set") (by decide +kernel) ?_ (by decide +kernel) (by decide +kernel))
  refine PyProof.Rows.callWith_type1 (PyProof.Rows.args_cons ?_ (starEach_of hst _ _)) (starEach_of hst _ _) rfl
  have body : tDB G W fe σ H fun x H1 => PureF G F x H1 Q := by
    refine ⟨Bd, ρ, w, a, ?_⟩
    have q : PostF G W Bd ρ σ H ((fe ρ w).bind fun x ρ w => R.of (F x) ρ w) Q := q
    cases ee : fe ρ w with
    | stuck => rw [ee] at q; exact q.elim
    | exc x ρ1 w1 => rw [ee] at q; exact q
    | ok d ρ1 w1 =>
      rw [ee] at q
      simp only [R.bind] at q
      intro v H1 s1 en sb dk r
      cases eF : F d with
      | none => simp only [eF, R.of] at q; exact q.elim
      | some e' =>
        simp only [eF, R.of] at q
        have a1 : At G Bd ρ1 w1 σ H1 := a.step s1 en dk
        exact ⟨_, d, e', r, eF, fun b hb => fresh_ok a1 hb, fun ad H2 hn he ow => q ad H1 H2 s1 en sb dk hn he ow⟩
  refine thn (he.run pins s σ H _ I body) fun v s1 ⟨x, H1, I1, r1, q1⟩ => PyProof.Rows.args_nil ?_
  refine wpAny_mono (h3 X W c.toCxy v x pins s1 σ H1 Q I1 r1 q1) (fun u s2 h => ?_) fun _ _ h => h
  exact PyProof.Rows.args_nil h
/-! ### fields, isinstance, slices, texts -/
theorem lookup_zip {f : Str} : ∀ {us : List (Str × V)} {ds : List D} {ok : Addr → Prop} {d : D}, DtL G ok H ds (us.map (·.2)) → ((us.map (·.1)).zip ds).lookup f = some d → ∃ v, us.lookup f = some v ∧ Dt G ok H d v
  | [], ds, ok, d, _, h => by simp at h
  | u :: us, ds, ok, d, dl, h => by
    cases ds with
    | nil => simp at h
    | cons e ds =>
      obtain ⟨v, r, e1, e2, e3⟩ := dl
      cases e1
      obtain ⟨n, y⟩ := u
      rw [List.map_cons, List.zip_cons_cons, List.lookup_cons] at h
      rw [List.lookup_cons]
      cases hb : f == n with
      | true =>
        rw [hb] at h
        cases h
        exact ⟨y, rfl, e2⟩
      | false =>
        rw [hb] at h
        exact lookup_zip e3 h
theorem c_fld {o : Expr} {f : Str} {po : PX} (M : GmOk G P wd base k Γ) (c : Cxx G P wd base k N sc fa X W) (ho : PE X o (tDB G W (brw po (ev Γ po)))) (hc : notCall o = true) : PE X (.Attribute o f pos) (tD G W (ev Γ (.fld po f))) := by
  have hbase : attributeBase o f X.env (eval o X.env) = eval o X.env := by
    exact attr_plain hc _
  refine PE.weak (pe_fld ho hbase) fun σ H Q h => ?_
  rw [ev_fld] at h
  obtain ⟨Bd, ρ, w, a, q⟩ := brw_split h
  refine ⟨Bd, ρ, w, a, ?_⟩
  cases ee : brw po (ev Γ po) ρ w with
  | stuck => rw [ee] at q; exact q
  | exc x ρ1 w1 => rw [ee] at q; exact q
  | ok d ρ1 w1 =>
    rw [ee] at q
    intro v H1 s1 en sb dk r
    obtain ⟨Bd2, ρ2, w2, d2, a2, r2, q2⟩ := q v H1 s1 en sb dk r
    cases ef : fldD Γ.fo f d2 with
    | none => simp only [ef, R.of] at q2; exact q2.elim
    | some e' =>
      simp only [ef, R.of] at q2
      cases d2 with
      | ins cn ns ds =>
        simp only [fldD] at ef
        by_cases hfo : Γ.fo cn f = true
        · rw [if_pos hfo] at ef
          obtain ⟨ad, C, dx, us, e1, hC, hH, hns, dl⟩ := r2
          subst hns
          obtain ⟨y, h1, h2⟩ := lookup_zip dl ef
          obtain ⟨cl, na⟩ := M.fo cn f hfo C hC
          rw [c.K]
          exact ⟨ad, C, dx, us, y, e1, hH, cl, na, h1, PostE.here a2 q2 h2⟩
        · rw [if_neg hfo] at ef
          cases ef
      | _ => cases ef
theorem c_isi {t : Str} {e : Expr} {p1 p2 : Pos} {pe : PX} (M : GmOk G P wd base k Γ) (c : Cxx G P wd base k N sc fa X W) (he : PE X e (tDB G W (brw pe (ev Γ pe)))) (hg : glB sc "isinstance" = true) (hgt : glB sc t = true) (hn : plainN t = true) (hst : notStar e = true) :
    PE X (.Call (.Name "isinstance" p1) [e, .Name t p2] [] pos) (tD G W (ev Γ (.isi pe t))) := by
  refine ⟨fun pins s σ H Q I h => ?_⟩
  rw [ev_isi] at h
  cases hF : Γ.isi t with
  | none =>
    obtain ⟨Bd, ρ, w, a, q⟩ := h
    unfold isiD at q
    rw [hF] at q
    exact q.elim
  | some F =>
    obtain ⟨u, cv, k1, k2, k3, k5⟩ := M.isi t F hF
    have pt : PE X (.Name t p2) (tC cv) := by
      rcases k2 with ⟨k2, k4⟩ | k2
      · exact pe_bltn (c.gl hgt) (glob_of c k2) k4 (by cases k1 <;> rfl) (plainN_of hn).2.2 (plainN_of hn).1
      · exact pe_glob (c.gl hgt) (by rw [c.mg]; exact k2) (by cases k1 <;> rfl) (plainN_of hn).1
    refine (pe_callB (pos := pos) (p := p1) call_isi (c.gl hg) (glob_of c k3) (by decide +kernel) (pa_cons he (pa_cons pt pa_nil) (starEach_of hst _ _)) (by decide) (by decide) (starEach_of hst _ _) rfl).run pins s σ H Q I ?_
    have h2 : tD G W (fun ρ w => (brw pe (ev Γ pe) ρ w).bind fun x ρ w => R.of ((F x).map .bl) ρ w) σ H Q := by
      obtain ⟨Bd, ρ, w, a, q⟩ := h
      unfold isiD at q
      rw [hF] at q
      exact ⟨Bd, ρ, w, a, q⟩
    obtain ⟨Bd, ρ, w, a, q⟩ := brw_split h2
    refine ⟨Bd, ρ, w, a, ?_⟩
    cases ee : brw pe (ev Γ pe) ρ w with
    | stuck => rw [ee] at q; exact q
    | exc x ρ1 w1 => rw [ee] at q; exact q
    | ok d ρ1 w1 =>
      rw [ee] at q
      intro v H1 s1 en sb dk r
      obtain ⟨Bd2, ρ2, w2, d2, a2, r2, q2⟩ := q v H1 s1 en sb dk r
      cases ei : F d2 with
      | none => simp only [ei, Option.map_none, R.of] at q2; exact q2.elim
      | some b =>
        simp only [ei, Option.map_some, R.of] at q2
        obtain ⟨ty, h5, h6⟩ := k5 d2 b ei _ H1 v r2
        show rIsi X.K _ _ _
        rw [c.K]
        exact ⟨v, cv, ty, u, b, rfl, k1, h5, h6, PostE.here (rel := Dt G) (d := .bl b) (v := .bl b) a2 q2 rfl⟩
end
end DL
set_option maxRecDepth 100000
set_option maxHeartbeats 2000000
set_option linter.all false
namespace DL
open PySem PySem.Spec PyProof.Rows L2
/-! ### a dict comprehension, tuples as keys -/
section
variable {X : Cx}
/-- a pair is put -/
theorem t_put {Y : Cx} {pins : List (Addr × Obj)} {σ : L2.St} {H : Hp} {s : Shared} {E : Value → Shared → Prop} {D b : Addr} {kvs : List (List Key × V)} {kk : List Key} {v : V} {r : Value} {Q : Unit → Shared → Prop}
    (hu : Y.A.units + 1 < cLine) (I : Inv Y pins σ H s) (hD : H D = some (.dT kvs)) (hb : H b = some (.tup (kk.map kV))) (hz : kvs.length < sizeLine) (rv : RelV v r)
    (h : ∀ s', Inv Y pins σ (upd H D (.dT (putK kvs kk v))) s' → Q () s') : wpAny (model Y.prog Y.w) Y.A (dictSet D (.ref b) r) Q E s := by
  have old := dt_of I.hok hD
  obtain ⟨m1, m2, ents, m3, m4⟩ := old
  have hlen : ents.length ≤ sizeLine := Nat.le_trans (Nat.le_of_eq (Paired.length m3).symm) m1
  have big : (putK kvs kk v).length ≤ sizeLine := Nat.le_trans (length_putK kvs kk v) hz
  refine wpAny_dictSet_heap (hsz := hlen) (show Y.A.units < cLine by omega) (key_of I.hok hb) m4 ?_
  intro h' new same
  refine h _ ?_
  obtain ⟨ob, es, ep, n1, n2, n3, n4, _, n5⟩ := new
  have keep : ∀ (c : Addr) (ys : List V), H c = some (.tup ys) → upd H D (.dT (putK kvs kk v)) c = some (.tup ys) := fun c ys ec => by
    rw [upd_ne fun z => by rw [z, hD] at ec; cases ec]
    exact ec
  exact d_write I (by rw [hD]; trivial) same ⟨ob, n1⟩ ⟨big, m2, _, (m3.put kk hb rv).keeps keep, ob, es, ep, n1, n2, n3, n4, n5⟩
/-- the parts of the comprehension, each in the block's own context -/
structure DcParts (Y : Cx) (tg kx vx : Expr) (ifs : List Expr) (g : TG) (tt : TT) (tk tv : TE) : Prop where
  pg : PG Y tg g
  pt : PTs Y ifs tt
  pk : PE Y kx tk
  pv : PE Y vx tv
/-- one turn: the target, the tests, key and value, the pair put (N: what is to hold behind it) -/
def dcTurn (D : Addr) (vs : List Nat) (σ : L2.St) (g : TG) (tt : TT) (tk tv : TE) (x : V) (N : Hp → Prop) : Hp → Prop := fun H =>
  g x (wipe σ vs) H fun σ2 H2 => wipe σ2 vs = wipe σ vs ∧ tt σ2 H2 fun t H3 => if t = true then tk σ2 H3 fun y H4 => tv σ2 H4 fun z H5 =>
    ∃ (kvs : List (List Key × V)) (kk : List Key) (b : Addr), y = .ref b ∧ H5 b = some (.tup (kk.map kV)) ∧ H5 D = some (.dT kvs) ∧ kvs.length < sizeLine ∧ N (upd H5 D (.dT (putK kvs kk z))) else N H3
/-- the whole: a measured invariant over the turns -/
def tDct (wi : TI) (g : TG) (tt : TT) (tk tv : TE) (vs : List Nat) : TE := fun σ H Q => wi σ H fun J H1 => ∀ D, H1 D = none → ∃ M : Nat → Nat → Hp → Prop, (∃ n, M 0 n (upd H1 D (.dT []))) ∧
  ∀ i n H, M i n H → (J.stop i H ∧ Q (.ref D) H) ∨ (J.go i H ∧ ∃ N : Hp → Prop, (∀ H', N H' → ∃ n', n' < n ∧ M (i + 1) n' H') ∧ ∀ x H', J.yld i H x H' → dcTurn D vs σ g tt tk tv x N H')
theorem dct_loop {Y : Cx} {tg iter kx vx : Expr} {ifs : List Expr} {scope : Scope} {pos : Pos} {g : TG} {tt : TT} {tk tv : TE} {J : It} {fp : List Addr} {it D : Addr} {tn : Nat → Heap → Prop} {vs : List Nat} {σ : L2.St} {M : Nat → Nat → Hp → Prop} {R : Result → Shared → Prop}
    (pa : DcParts Y tg kx vx ifs g tt tk tv) (hu : Y.A.units + 1 < cLine) (hc : Y.calm = true) (T : Turn Y.prog Y.w Y.K tg J fp it tn)
    (hfp : ∀ {σ' : L2.St} {H' : Hp} {s' : Shared}, Inv Y [] σ' H' s' → (∀ b ∈ fp, H' b = none) → ∀ b ∈ fp, FpOk Y [] H' b)
    (hxe : ∀ e s', Y.xe e s' → notedBy (model Y.prog Y.w) Y.A Y.env (fun e s' => R (.error e) s') e s')
    (turn : ∀ i n H, M i n H → (J.stop i H ∧ ∀ s', Inv Y [] (wipe σ vs) H s' → R (.ok .next) s') ∨ (J.go i H ∧ ∃ N : Hp → Prop, (∀ H', N H' → ∃ n', n' < n ∧ M (i + 1) n' H') ∧ ∀ x H', J.yld i H x H' → dcTurn D vs σ g tt tk tv x N H'))
    {s : Shared} {H : Hp} {n : Nat} (I : Inv Y [] (wipe σ vs) H s) (at0 : tn 0 s.heap) (nb : ∀ b ∈ fp, H b = none) (h0 : M 0 n H) :
    codeAny (model Y.prog Y.w) Y.A (.compLoop (.DictComp kx vx [⟨tg, iter, ifs, 0⟩] scope pos) 0 (.ref it) (.ref D) Y.env) R s := by
  refine compLoop_anyD (fun n s' => ∃ i H', Inv Y [] (wipe σ vs) H' s' ∧ tn i s'.heap ∧ (∀ b ∈ fp, H' b = none) ∧ M i n H') ?_ n ⟨0, H, I, at0, nb, h0⟩
  rintro n s' ⟨i, H', I', t', nb', m'⟩
  rcases turn i n H' m' with ⟨stop, fin⟩ | ⟨go, N, meas, step⟩
  · refine wpAny_mono (T.done Y rfl rfl rfl hc i [] s' _ H' (fun _ _ => False) I' (hfp I' nb') t' stop) ?_ fun _ _ z => z.elim
    rintro r s6 ⟨rfl, I6⟩
    exact fin s6 I6
  refine wpAny_mono (T.item Y rfl rfl rfl hc i [] s' _ H' (fun _ _ => False) I' (hfp I' nb') t' go) ?_ fun _ _ z => z.elim
  rintro r s6 ⟨u, rfl, h6⟩
  refine wpAny_mono h6 ?_ fun _ _ z => z.elim
  rintro _ s7 ⟨x, H7, I7, rx, yl, t7, n7⟩
  have I7' := I7.pinned (hfp I7 n7) (T.obj _ _ t7)
  refine wpAny_mono (pa.pg.run _ s7 _ H7 x u _ I7' rx (step x H7 yl)) ?_ hxe
  rintro _ s8 ⟨σ8, H8, I8, hw, q8⟩
  refine wpAny_mono (pa.pt.run _ s8 σ8 H8 _ I8 q8) ?_ hxe
  rintro t s9 ⟨H9, I9, q9⟩
  -- behind the turn the iterator's objects are as they were
  have back : ∀ {sb : Shared} {Hb : Hp}, Inv Y ([] ++ pinsAt fp s7.heap) σ8 Hb sb → N Hb → ∃ n', n' < n ∧ ∃ i H', Inv Y [] (wipe σ vs) H' sb ∧ tn i sb.heap ∧ (∀ b ∈ fp, H' b = none) ∧ M i n' H' := by
    intro sb Hb Ib hN
    obtain ⟨n', less, hM⟩ := meas Hb hN
    have kept : ∀ b ∈ fp, ∀ o, s7.heap.get? b = some o → sb.heap.get? b = some o ∧ Hb b = none := fun b hb o e => by
      have z := Ib.pin (b, o) (List.mem_append_right _ (List.mem_append_right _ (mem_pinsAt hb e)))
      exact ⟨z.1, z.2.1⟩
    have len : (wipe σ vs).length = σ8.length := (congrArg List.length hw).symm.trans (wipe_length σ8 vs)
    refine ⟨n', less, i + 1, Hb, (Ib.unpinned (pins := [])).weak len fun j v e => ?_, T.keep _ _ _ t7 fun b hb o e => (kept b hb o e).1, fun b hb => ?_, hM⟩
    · rw [← hw] at e
      exact (wipe_some e).1
    · obtain ⟨o, e, _⟩ := T.obj _ _ t7 b hb
      exact (kept b hb o e).2
  cases t with
  | false => exact back I9 q9
  | true =>
    refine wpAny_mono (pa.pk.run _ s9 σ8 H9 _ I9 q9) ?_ hxe
    rintro ku s10 ⟨y, H10, I10, ry, q10⟩
    refine wpAny_mono (pa.pv.run _ s10 σ8 H10 _ I10 q10) ?_ hxe
    rintro vu s11 ⟨z, H11, I11, rz, kvs, kk, b, rfl, hb, hD, hz, last⟩
    cases (show ku = Value.ref b from ry)
    exact t_put hu I11 hD hb hz rz fun s12 I12 => back I12 last
theorem dct_core {pins : List (Addr × Obj)} {s : Shared} {σ : L2.St} {H : Hp} {Q : VK} {kx vx tg iter : Expr} {ifs : List Expr} {scope : Scope} {own : List (Str × Nat)} {pos pos' : Pos} {wi : TI} {g : TG} {tt : TT} {tk tv : TE} {use : Option (Value → Sem Unit)} {Qf : Value → Shared → Prop}
    (hu : X.A.units + 1 < cLine) (hc : X.calm = true) (hN : X.N.Nodup) (I : Inv X pins σ H s) (hi : PI X tg iter wi)
    (ok : BlkOk X.N X.env.scope scope own) (parts : ∀ (s : Shared) (H : Hp) (C : Addr) (cl : List (Str × Addr)) (fp : List Addr), DcParts (X.blk s H scope (compEnvC scope cl C X.env) fp) tg kx vx ifs g tt tk tv)
    (hs : ∀ x, foldedSetIterable iter X.env x = pure x) (h : tDct wi g tt tk tv (own.map (·.2)) σ H Q)
    (last : ∀ (D C : Addr) (s' : Shared) (m : Str → Option Value) (H' : Hp), Inv X pins σ H' s' → Q (.ref D) H' → s'.heap.Ns C m → FpOk X pins H' C → compPost (model X.prog X.w) X.A X.xe use Qf (.ref D) C (.ok .next) s') :
    wpAny (model X.prog X.w) X.A (comprehension (.DictComp kx vx [⟨tg, iter, ifs, 0⟩] scope pos) scope X.env pos' newDict false (eval iter X.env) use) Qf X.xe s := by
  have clo : ∀ y ∈ scope.names, y.2 = .free → ∃ c, X.env.cells.lookup y.1 = some c := fun y hy fr => I.ok.has _ (ok.free y hy fr)
  refine wpAny_comprehension_free (use := use) rfl hs (closure_ok clo) ok.kind (fun y hy loc => (ok.uniq y hy).trans (congrArg some loc)) ?_
  refine thn (hi.run pins s σ H _ I h) ?_
  intro xv s1 hx
  refine thn hx ?_
  rintro itv s2 ⟨it, fp, tn, J, H2, rfl, I2, T, at2, apart, turns⟩
  refine wpAny_newObj_type (newEnv_comp ?_)
  generalize hD : s2.heap.objs.size = D
  have noD : H2 D = none := I2.hok.fresh (Nat.le_of_eq hD)
  obtain ⟨M, ⟨m0, start0⟩, go⟩ := turns D noD
  generalize hs3 : ({ s2 with heap := s2.heap.push { cls := .type "dict", data := .dict #[] } } : Shared) = s3
  have heap3 : s3.heap = s2.heap.push { cls := .type "dict", data := .dict #[] } := by rw [← hs3]
  have grow : ∀ b o, s2.heap.get? b = some o → s3.heap.get? b = some o := fun b o e => by
    rw [heap3]
    exact Heap.get?_push_of_some _ e
  have I3 : Inv X pins σ (upd H2 D (.dT [])) s3 := by
    subst hs3 hD
    exact I2.laid (t' := s2.toks) grow (Nat.le_refl _) (dt_empty s2.heap I2.big)
  have inold : ∀ b ∈ fp, b < s2.heap.objs.size := fun b hb => (T.obj _ _ at2 b hb).elim fun o e => Heap.lt_size e.1
  have apart3 : ∀ b ∈ fp, FpOk X pins (upd H2 D (.dT [])) b ∧ b < s3.heap.objs.size := fun b hb => by
    have young := inold b hb
    have ne : b ≠ D := fun z => absurd young (by rw [z, hD]; exact Nat.lt_irrefl _)
    obtain ⟨f1, f2⟩ := apart b hb
    exact ⟨⟨(upd_ne ne).trans f1, f2⟩, by rw [heap3, Heap.size_push]; exact Nat.lt_succ_of_lt young⟩
  have at3 : tn 0 s3.heap := T.keep _ _ _ at2 fun b _ o e => grow b o e
  have I4 := block_start I3 ok hN apart3
  have pa := parts s3 (upd H2 D (.dT [])) s3.heap.objs.size (cellsFrom (s3.heap.objs.size + 1) scope.names (cloFrom X.env.cells scope.names [])) fp
  generalize hs4 : ({ s3 with heap := pushCells (s3.heap.push { cls := .type "dict", data := .dict #[] }) scope.names } : Shared) = s4 at I4
  have at4 : tn 0 s4.heap := T.keep _ _ _ at3 fun b _ o e => by
    rw [← hs4]
    exact pushCells_keeps _ _ _ _ (Heap.get?_push_of_some _ e)
  generalize hce : compEnvC scope (cellsFrom (s3.heap.objs.size + 1) scope.names (cloFrom X.env.cells scope.names [])) s3.heap.objs.size X.env = ce at I4 pa
  have loc : ce.locals = s3.heap.objs.size := by rw [← hce]; rfl
  have key : codeAny (model X.prog X.w) X.A (.compStart (.DictComp kx vx [⟨tg, iter, ifs, 0⟩] scope pos) 0 (.ref it) (.ref D) ce) (compPost (model X.prog X.w) X.A X.xe use Qf (.ref D) s3.heap.objs.size) s4 := by
    have loop := dct_loop (Y := X.blk s3 (upd H2 D (.dT [])) scope ce fp) (scope := scope) (pos := pos) (iter := iter) (R := compPost (model X.prog X.w) X.A X.xe use Qf (.ref D) s3.heap.objs.size) pa hu hc T (vs := own.map (·.2)) (σ := σ) (D := D) (M := M)
      (fun {σ' H' s'} I' hn b hb => ⟨hn b hb, (I'.ok.exf b hb).1, I'.ok.exfs b hb, .inl hb, fun x c e => (I'.ok.exf b hb).2 x c e, fun p hp => (nomatch (show p ∈ ([] : List (Addr × Obj)) from hp))⟩)
      (fun e s' z => z.elim) (fun i n H' hM => by
        rcases go i n H' hM with ⟨stop, q⟩ | r
        · refine .inl ⟨stop, fun s6 I6 => ?_⟩
          -- back in the def's own context
          have I7 : Inv X pins σ H' s6 := I3.call' (ch := fp) I6.os I6.base I6.hok I6.bare fun b hb => by
            obtain ⟨g1, _, g3, g4, g5⟩ := (apart3 b hb).1.2
            exact ⟨g3, g1, g4, g5⟩
          have noC : H' s3.heap.objs.size = none := by
            have z : H' ce.locals = none := I6.free
            rwa [loc] at z
          obtain ⟨m, hm, _⟩ := I6.loc
          have hm : s6.heap.Ns ce.locals m := hm
          rw [loc] at hm
          have ap := I3.fpOk (Nat.le_refl _) noC
          exact last D _ s6 m H' I7 q hm ap
        · exact .inr r) I4 at4 (fun b hb => (apart3 b hb).1.1) start0
    exact codeAny_compStart_dict loop (T.self X.A 0 _ _ _ at4 loop)
  rw [← hce] at key
  exact key
/-- as a value -/
theorem pe_dcT {kx vx tg iter : Expr} {ifs : List Expr} {scope : Scope} {own : List (Str × Nat)} {pos : Pos} {wi : TI} {g : TG} {tt : TT} {tk tv : TE} (hu : X.A.units + 1 < cLine) (hc : X.calm = true) (hN : X.N.Nodup) (hi : PI X tg iter wi)
    (ok : BlkOk X.N X.env.scope scope own) (parts : ∀ (s : Shared) (H : Hp) (C : Addr) (cl : List (Str × Addr)) (fp : List Addr), DcParts (X.blk s H scope (compEnvC scope cl C X.env) fp) tg kx vx ifs g tt tk tv)
    (hs : ∀ x, foldedSetIterable iter X.env x = pure x := by intro _; rfl) : PE X (.DictComp kx vx [⟨tg, iter, ifs, 0⟩] scope pos) (tDct wi g tt tk tv (own.map (·.2))) := by
  refine ⟨fun pins s σ H Q I h => ?_⟩
  rw [arm_eval_DictComp]
  refine dct_core (use := none) hu hc hN I hi ok parts hs h ?_
  intro D C s' m H' I' q hm ap
  refine ⟨m, hm, fun h'' sb => ⟨.ref D, H', ?_, rfl, q⟩⟩
  exact I'.turned (t' := s'.toks) (fun b o hb e => (sb.2 b hb).trans e) ap.1 ap.2.1 ap.2.2.2.1 ap.2.2.2.2.1 ap.2.2.2.2.2
/-- name = {..} on one line, the name a local -/
theorem ps_dcT {i : Nat} {y : Str} {py pos spos : Pos} {kx vx tg iter : Expr} {ifs : List Expr} {scope : Scope} {own : List (Str × Nat)} {wi : TI} {g : TG} {tt : TT} {tk tv : TE} (hu : X.A.units + 1 < cLine) (hc : X.calm = true) (hN : X.N.Nodup)
    (hy : X.N[i]? = some y) (hyl : X.env.scope.names.lookup y = some .local) (hsw : swapsWith (.DictComp kx vx [⟨tg, iter, ifs, 0⟩] scope pos) (some (.Name y py)) spos.line X.env = pure true) (hi : PI X tg iter wi)
    (ok : BlkOk X.N X.env.scope scope own) (parts : ∀ (s : Shared) (H : Hp) (C : Addr) (cl : List (Str × Addr)) (fp : List Addr), DcParts (X.blk s H scope (compEnvC scope cl C X.env) fp) tg kx vx ifs g tt tk tv)
    (hs : ∀ x, foldedSetIterable iter X.env x = pure x := by intro _; rfl) : PS X (.Assign [.Name y py] (.DictComp kx vx [⟨tg, iter, ifs, 0⟩] scope pos) spos) (tAsg (tDct wi g tt tk tv (own.map (·.2))) (gName i)) := by
  refine ⟨fun pins s σ H E I h => ?_⟩
  rw [exec_Assign_Name_used _ _ _ _ hsw]
  refine wpAny_bind (wpAny_standAt (wpAny_bind ?_))
  have start : tDct wi g tt tk tv (own.map (·.2)) σ H (fun x H1 => gName i x σ H1 E.nx) := h
  have core := dct_core (pos := pos) (pos' := firstIterPos [⟨tg, iter, ifs, 0⟩] pos) (use := some (assign (.Name y py) X.env)) (Qf := fun _ s' => SP X pins E .next s') hu hc hN I hi ok parts hs start fun D C s' m H' I' q hm ap => by
    show wpAny _ _ (assign (.Name y py) X.env (.ref D)) _ _ _
    refine wpAny_assign_Name (store_ok2 (v := V.ref D) I' hN hy (.inl hyl) rfl ?_ (.inr hyl))
    rintro s2 I2 ⟨a, sb, ha⟩
    have away : C ≠ a := ha.elim (fun z => z ▸ ap.2.1) fun z e => ap.2.2.2.2.1 y a z e.symm
    refine ⟨m, hm.sameBut sb away, fun h3 sb3 => ⟨_, H', ?_, q⟩⟩
    exact I2.turned (t' := s2.toks) (fun b o hb e => (sb3.2 b hb).trans e) ap.1 ap.2.1 ap.2.2.2.1 ap.2.2.2.2.1 ap.2.2.2.2.2
  exact wpAny_bind (thn core fun _ s' hq => wpAny_pure (wpAny_pure hq))
theorem swD_true {kx vx : Expr} {gs : List Comprehension} {scope : Scope} {pos py : Pos} {y : Str} {l : Nat} {env : Env} (hk : env.scope.kind = .function) (hy : env.scope.names.lookup y = some .local) (hl : (py.line == pos.line) = true)
    (ha : (scope.names.any fun (n, k) => n == y && (k == .local || k == .cell)) = false) : swapsWith (.DictComp kx vx gs scope pos) (some (.Name y py)) l env = pure true := by
  have h1 : env.kindOf y = some .local := hy
  have h2 : env.blockKind = .function := by
    unfold Env.blockKind
    rw [hk]
    rfl
  unfold swapsWith
  simp only [h2, h1, ha, Expr.pos, hl]
  rfl
end
end DL
set_option maxRecDepth 100000
set_option maxHeartbeats 2000000
set_option linter.all false
namespace DL
open PySem PySem.Spec PyProof.Rows L2
/-! ### the turns of a dict's comprehension -/
section
variable {G : GC} {P : Program} {wd : World} {base : Heap} {k : Nat} {N : List Str} {sc : Scope} {fa : Bool} {X : Cx} {W : WX} {Γ : Gm} {a b c : Expr} {pos : Pos} {Bd : Addr → Prop} {H H1 H' : Hp} {ρ ρ0 ρ1 : En} {σ σ0 : L2.St} {w w1 : DW}
/-- over what is walked: a measure by what is left -/
theorem dct_it {J : It} {n : Nat} {Gd : Hp → Prop} {Y : Nat → Hp → V → Hp → Prop} (wk : Walk J n Gd Y) {g : TG} {tt : TT} {tk tv : TE} {vs : List Nat} {σ : L2.St} {Hs : Hp} {D : Addr} {Qd : Hp → Prop} (Pv : Nat → Hp → Prop) (h0 : Pv 0 Hs) (hG : ∀ i H, i ≤ n → Pv i H → Gd H)
    (hs : ∀ i x H H', i < n → Pv i H → Y i H x H' → dcTurn D vs σ g tt tk tv x (Pv (i + 1)) H') (hd : ∀ H, Pv n H → Qd H) :
    ∃ M : Nat → Nat → Hp → Prop, (∃ m, M 0 m Hs) ∧ ∀ i m H, M i m H → (J.stop i H ∧ Qd H) ∨ (J.go i H ∧ ∃ N : Hp → Prop, (∀ H', N H' → ∃ m', m' < m ∧ M (i + 1) m' H') ∧ ∀ x H', J.yld i H x H' → dcTurn D vs σ g tt tk tv x N H') := by
  refine ⟨fun i m H => i ≤ n ∧ m + i = n ∧ Pv i H, ⟨n, Nat.zero_le _, Nat.add_zero _, h0⟩, fun i m H => ?_⟩
  rintro ⟨hi, hm, p⟩
  rcases Nat.lt_or_eq_of_le hi with less | rfl
  · refine .inr ⟨wk.goes i H less (hG i H hi p), Pv (i + 1), fun H' p' => ⟨m - 1, by omega, less, by omega, p'⟩, fun x H' y => hs i x H H' less p (wk.yields i H x H' less (hG i H hi p) y)⟩
  · exact .inl ⟨wk.stops H (hG i H hi p), hd H p⟩
theorem dc_turns {tg : Tg} {vs : List Nat} {t : En → DW → R Bool} {fk fv : En → DW → R D} {put : D → D → D → Option D} {ds : List D} {J : It} {Q : VK} (a0 : At G Bd ρ w σ H) (wk : WalkD G (okA Bd (owns ρ σ)) H J ds) (hput : DcpOk G put)
    (ht : ∀ ρ w, t ρ w = .ok true ρ w) (q : PostF G W Bd ρ σ H (dcD tg vs put fk fv ds (.dT [] []) ρ w) Q) (hvs : ∀ i ∈ tgIx tg, i ∈ vs) :
    ∀ Dl, H Dl = none → ∃ M : Nat → Nat → Hp → Prop, (∃ m, M 0 m (upd H Dl (.dT []))) ∧ ∀ i m H, M i m H →
      (J.stop i H ∧ Q (.ref Dl) H) ∨ (J.go i H ∧ ∃ Nx : Hp → Prop, (∀ H', Nx H' → ∃ m', m' < m ∧ M (i + 1) m' H') ∧ ∀ x H', J.yld i H x H' → dcTurn Dl vs σ (tG G.K tg) (tDT G WF t) (tD G WF fk) (tD G WF fv) x Nx H') := by
  intro Dl hDl
  obtain ⟨Gd, Y, wl, hgd, hy⟩ := wk.ex
  have hdk : ¬ (Dl = G.dk) := fun z => by rw [z, a0.dk.dk] at hDl; cases hDl
  have hgl : ¬ (Dl = G.gl) := fun z => by rw [z, a0.dk.gl] at hDl; cases hDl
  let Pv : Nat → Hp → Prop := fun i H' => ∃ ρ' w' acc kvs, At G (Bd1 Bd Dl) ρ' w' σ H' ∧ Stp G (owns ρ σ) H H' ∧ (∀ a ∈ owns ρ' σ, a ∈ owns ρ σ ∨ H a = none) ∧ (∀ a ∈ owns ρ' σ, a ∈ owns ρ σ) ∧ H' Dl = some (.dT kvs) ∧ DcAcc G (okA (Bd1 Bd Dl) (owns ρ' σ)) H' acc kvs ∧
    PostF G W Bd ρ σ H (dcD tg vs put fk fv (ds.drop i) acc ρ' w') Q
  have keeps : ∀ {H' : Hp}, Stp G (owns ρ σ) H H' → ∀ a o, okA Bd (owns ρ σ) a → H a = some o → H' a = some o := fun s a o ok e => (carryK a0.bd s (A' := owns ρ σ) (fun _ h => .inl h) a o ok e).2
  obtain ⟨ab, nDl⟩ := a0.beside (o := .dT []) hDl
  refine dct_it wl (g := tG G.K tg) (tt := tDT G WF t) (tk := tD G WF fk) (tv := tD G WF fv) (vs := vs) (σ := σ) (D := Dl) (Qd := fun H => Q (.ref Dl) H) Pv ⟨ρ, w, .dT [] [], [], ab, (Ext.new hDl).stp, fun _ h => .inl h, fun _ h => h, upd_same, ⟨[], rfl, rfl⟩, by rw [List.drop_zero]; exact q⟩ (fun i H' hi ⟨ρ', w', acc, ac, a1, s1, _⟩ => hgd H' (keeps s1) s1.tup) ?_ ?_
  · rintro i x H1 H2 hi ⟨ρ1, w1, acc, ac, a1, s1, nb1, sb1, hac, dac, q1⟩ y
    obtain ⟨e12, d, hd, hdt⟩ := hy i H1 x H2 hi (keeps s1) s1.tup y
    rw [drop_at hd] at q1
    have dt : Dt G (okA (Bd1 Bd Dl) (owns ρ1 σ)) H2 d x := hdt _ fun a o ok e => by
      have c1 := carryK a0.bd s1 nb1 a o ok e
      refine ⟨fun z => ?_, c1.1.2⟩
      rcases z with z | z
      · exact c1.1.1 z
      · rw [z, hDl] at e
        cases e
    have a2 : At G (Bd1 Bd Dl) ρ1 w1 σ H2 := a1.ext e12
    unfold dcD at q1
    cases hf : free ρ1 vs with
    | false => simp only [hf] at q1; exact q1.elim
    | true =>
      simp only [hf, if_true] at q1
      obtain ⟨aw, sw⟩ := a2.wiped vs
      cases e : asgD tg d (wipeE ρ1 vs) with
      | none => simp only [e] at q1; exact q1.elim
      | some ρ2 =>
        simp only [e] at q1
        have dtw : Dt G (okA (Bd1 Bd Dl) (owns (wipeE ρ1 vs) (wipe σ vs))) H2 d x := dt.mono (fun b o k e => ⟨okA_sub sw k, e⟩) fun _ _ e => e
        refine asg_tg aw dtw e fun σ3 a3 sb3 hw => ?_
        have hw3 : wipe σ3 vs = wipe σ vs := (hw vs hvs).trans (wipe_wipe vs σ)
        have sb31 : ∀ b ∈ owns ρ2 σ3, b ∈ owns ρ1 σ := fun b hb => sw b (sb3 b hb)
        refine ⟨hw3, Bd1 Bd Dl, ρ2, w1, a3, ?_⟩
        have stands : ∀ {Ha Hb : Hp} {ρa : En} {σa : L2.St} {wa : DW}, At G (Bd1 Bd Dl) ρa wa σa Ha → Stp G (owns ρa σa) Ha Hb → Ha Dl = some (.dT ac) → Hb Dl = some (.dT ac) := fun aa s h => s.keep Dl _ h (fun z => aa.en.nb Dl z (.inr rfl)) hdk hgl
        have hac2 := e12 Dl _ hac
        rw [ht]
        intro H3 s3 en3 sb33 dk3
        have a4 : At G (Bd1 Bd Dl) ρ2 w1 σ3 H3 := a3.step s3 en3 dk3
        have hac3 := stands a3 s3 hac2
        have s23 : Stp G (owns ρ1 σ) H2 H3 := s3.sub sb31
        rw [if_pos rfl]
        show tD G WF fk σ3 H3 _
        refine ⟨Bd1 Bd Dl, ρ2, w1, a4, ?_⟩
        cases ek : fk ρ2 w1 with
        | stuck => simp only [ek] at q1; exact q1.elim
        | exc x4 ρ4 w4 => simp only [ek] at q1; exact q1.elim
        | ok kd ρ3 w3 =>
          simp only [ek] at q1
          intro kv H4 s4 en4 sb4 dk4 dkv
          have a5 : At G (Bd1 Bd Dl) ρ3 w3 σ3 H4 := a4.step s4 en4 dk4
          have hac4 := stands a4 s4 hac3
          show tD G WF fv σ3 H4 _
          refine ⟨Bd1 Bd Dl, ρ3, w3, a5, ?_⟩
          cases ev : fv ρ3 w3 with
          | stuck => simp only [ev] at q1; exact q1.elim
          | exc x4 ρ4 w4 => simp only [ev] at q1; exact q1.elim
          | ok vd ρ4 w4 =>
            simp only [ev] at q1
            cases ep : put acc kd vd with
            | none => simp only [ep] at q1; exact q1.elim
            | some acc' =>
              simp only [ep] at q1
              intro v H5 s5 en5 sb5 dk5 dv
              have a6 : At G (Bd1 Bd Dl) ρ4 w4 σ3 H5 := a5.step s5 en5 dk5
              have hac5 := stands a5 s5 hac4
              have sb41 : ∀ b ∈ owns ρ3 σ3, b ∈ owns ρ1 σ := fun b hb => sb31 b (sb33 b (sb4 b hb))
              have sb51 : ∀ b ∈ owns ρ4 σ3, b ∈ owns ρ1 σ := fun b hb => sb41 b (sb5 b hb)
              have s24 : Stp G (owns ρ1 σ) H2 H4 := s23.trans s4 fun b hb => .inl (sb31 b (sb33 b hb))
              have s25 : Stp G (owns ρ1 σ) H2 H5 := s24.trans s5 fun b hb => .inl (sb41 b hb)
              obtain ⟨a7, sb7⟩ := a2.back hf a6 hw3 s25 fun b hb => .inl (sb51 b hb)
              have sb71 : ∀ b ∈ owns (backE ρ1 ρ4 vs) σ, b ∈ owns ρ1 σ := fun b hb => sb51 b (sb7 b hb)
              -- what is known of the pair, at the end of the turn
              have d1 : DcAcc G (okA (Bd1 Bd Dl) (owns (backE ρ1 ρ4 vs) σ)) H5 acc ac := by
                obtain ⟨zs, z1, z2⟩ := dac
                exact ⟨zs, z1, (z2.ext e12).carry a2.bd s25 fun b hb => .inl (sb71 b hb)⟩
              have d2 : Dt G (okA (Bd1 Bd Dl) (owns (backE ρ1 ρ4 vs) σ)) H5 vd v := dv.mono (fun b o k e => ⟨okA_sub sb7 k, e⟩) fun _ _ e => e
              have d3 : Dt G (okA (Bd1 Bd Dl) (owns (backE ρ1 ρ4 vs) σ)) H5 kd kv := (Dt.carry a5.bd s5 (fun b hb => .inl (sb5 b hb)) dkv).mono (fun b o k e => ⟨okA_sub sb7 k, e⟩) fun _ _ e => e
              obtain ⟨kk, b, rfl, hb, hz, dd⟩ := hput acc kd vd acc' _ H5 ac kv v ep d1 d3 d2
              have a8 := a7.put (o := .dT (putK ac kk v)) hdk hgl hac5 (fun xs z => by cases z)
              refine ⟨ac, kk, b, rfl, hb, hac5, hz, _, w4, acc', putK ac kk v, a8, ?_, fun b hb => nb1 b (sb71 b hb), fun b hb => sb1 b (sb71 b hb), upd_same, ?_, q1⟩
              · have s05 : Stp G (owns ρ σ) H H5 := s1.trans (e12.stp.trans s25 fun b hb => .inl hb) nb1
                refine ⟨fun b o e n d g => ?_, fun b xs e => ?_, fun b e => ?_⟩
                · rw [upd_ne fun z => by rw [z, hDl] at e; cases e]
                  exact s05.keep b o e n d g
                · rw [upd_ne fun z => by rw [z, hDl] at e; cases e]
                  exact s05.tup b xs e
                · rw [upd_ne fun z => by rw [z] at e; exact e hDl]
                  exact s05.stay b e
              · obtain ⟨zs, z1, z2⟩ := dd
                refine ⟨zs, z1, z2.mono (fun b o k e => ⟨k, ?_⟩) fun b xs e => ?_⟩
                · rw [upd_ne fun z => k.1 (.inr z)]
                  exact e
                · rw [upd_ne fun z => by rw [z, hac5] at e; cases e]
                  exact e
  · rintro H1 ⟨ρ1, w1, acc, ac, a1, s1, nb1, sb1, hac, dac, q1⟩
    rw [List.drop_length] at q1
    unfold dcD at q1
    let Hm : Hp := fun b => if b = Dl then none else H1 b
    have hm : ∀ b, b ≠ Dl → Hm b = H1 b := fun b hb => if_neg hb
    have hmD : Hm Dl = none := if_pos rfl
    have ext : Ext Hm H1 := fun b o e => by
      by_cases hb : b = Dl
      · rw [hb, hmD] at e
        cases e
      · rw [← hm b hb]
        exact e
    obtain ⟨zs, z1, z2⟩ := dac
    subst z1
    refine q1 Dl Hm H1 ⟨fun b o e n d g => ?_, fun b xs e => ?_, fun b e => ?_⟩ ⟨?_, a1.en.nd, fun b hb z => a1.en.nb b hb (.inl z)⟩ sb1 ⟨?_, ?_⟩ hmD ext ⟨ac, hac, rfl, ?_⟩
    · rw [hm b fun z => by rw [z, hDl] at e; cases e]
      exact s1.keep b o e n d g
    · rw [hm b fun z => by rw [z, hDl] at e; cases e]
      exact s1.tup b xs e
    · rw [hm b fun z => by rw [z] at e; exact e hDl]
      exact s1.stay b e
    · refine a1.en.sl.mono (fun b o k e => ⟨⟨fun z => k.1 (.inl z), k.2⟩, ?_⟩) (fun b xs e => ?_) fun b hb => hm b fun z => a1.en.nb b hb (.inr z)
      · rw [hm b fun z => k.1 (.inr z)]
        exact e
      · rw [hm b fun z => by rw [z, hac] at e; cases e]
        exact e
    · rw [hm _ fun z => hdk z.symm]
      exact a1.dk.dk
    · rw [hm _ fun z => hgl z.symm]
      exact a1.dk.gl
    · exact z2.mono (fun b o k e => ⟨⟨⟨fun z => k.1 (.inl z), k.2⟩, fun z => k.1 (.inr z)⟩, e⟩) fun _ _ e => e
end
end DL
set_option maxRecDepth 100000
set_option maxHeartbeats 2000000
set_option linter.all false
namespace DL
open PySem PySem.Spec PyProof.Rows L2
section
variable {G : GC} {P : Program} {wd : World} {base : Heap} {k : Nat} {N : List Str} {sc : Scope} {fa : Bool} {X : Cx} {W : WX} {Γ : Gm} {a b c : Expr} {pos : Pos} {Bd : Addr → Prop} {H H1 H' : Hp} {ρ ρ0 ρ1 : En} {σ σ0 : L2.St} {w w1 : DW}
/-! ### slices -/
def tDO (G : GC) (W : WX) (f : En → DW → R (Option Int)) : TO := fun σ H Q => ∃ Bd ρ w, At G Bd ρ w σ H ∧ PostT G W Bd ρ σ H (f ρ w) Q
theorem o_nil : PO X none (tDO G W (evO Γ .nil)) := by
  refine ⟨fun pins s σ H Q I ⟨Bd, ρ, w, a, q⟩ => po_none.run pins s σ H Q I ?_⟩
  rw [evO_nil] at q
  exact q H Stp.refl a.en (fun _ h => h) a.dk
theorem o_one {e : Expr} {p : PX} (h : PE X e (tD G W (ev Γ p))) : PO X (some e) (tDO G W (evO Γ (.cons p .nil))) := by
  refine ⟨fun pins s σ H Q I ⟨Bd, ρ, w, a, q⟩ => (po_some h).run pins s σ H Q I ?_⟩
  rw [evO_one] at q
  refine ⟨Bd, ρ, w, a, PostT.bind a q fun d ρ1 w1 v H1 m r q1 => ?_⟩
  cases d with
  | int i =>
    have hv : v = .int i := r
    exact ⟨i, hv, q1 H1 Stp.refl m.at_.en (fun _ h => h) m.at_.dk⟩
  | _ => exact q1.elim
/-- what is sliced keeps standing while the bounds are told -/
theorem c_slc {e : Expr} {lo hi : Option Expr} {p2 : Pos} {pa : PX} {pl ph : PXs} (M : GmOk G P wd base k Γ) (c : Cxx G P wd base k N sc fa X W) (he : PE X e (tD G W (ev Γ pa))) (hl : PO X lo (tDO G W (evO Γ pl))) (hh : PO X hi (tDO G W (evO Γ ph))) :
    PE X (.Subscript e (.Slice lo hi none p2) pos) (tD G W (ev Γ (.slc pa pl ph))) := by
  refine PE.weak (pe_slice (M.slc X W c.toCxy) he hl hh) fun σ H Q ⟨Bd, ρ, w, a, q⟩ => ?_
  rw [ev_slc] at q
  refine ⟨Bd, ρ, w, a, PostE.bind a q fun d ρ1 w1 v H1 m r q1 => ?_⟩
  refine ⟨Bd, ρ1, w1, m.at_, PostE.bindT m.at_ q1 fun l ρ2 w2 H2 m2 q2 => ?_⟩
  refine ⟨Bd, ρ2, w2, m2.at_, PostE.bindT m2.at_ q2 fun h ρ3 w3 H3 m3 q3 => ?_⟩
  have r3 : Dt G (okA Bd (owns ρ3 σ)) H3 d v := Dt.carry m2.at_.bd m3.stp (fun a ha => .inl (m3.sub a ha)) (Dt.carry m.at_.bd m2.stp (fun a ha => .inl (m2.sub a ha)) r)
  cases es : Γ.slc d l h with
  | none => simp only [es, R.of] at q3; exact q3.elim
  | some y =>
    simp only [es, R.of] at q3
    exact ⟨_, d, y, r3.toB, es, fun b hb => fresh_ok m3.at_ hb, fun v' H' ex dt => PostE.next m3.at_ q3 ex dt⟩
/-! ### texts -/
theorem c_fmt {e : Expr} {p : PX} (M : GmOk G P wd base k Γ) (he : PE X e (tD G W (ev Γ p))) : PE X (.FormattedValue e (-1) none pos) (tD G W (ev Γ (.fmt p))) := by
  refine PE.weak (pe_fmt he) fun σ H Q ⟨Bd, ρ, w, a, q⟩ => ?_
  rw [ev_fmt] at q
  refine ⟨Bd, ρ, w, a, PostE.bind a q fun d ρ1 w1 v H1 m r q1 => ?_⟩
  cases e1 : Γ.fmt d with
  | none => simp only [e1, R.of] at q1; exact q1.elim
  | some y =>
    simp only [e1, R.of] at q1
    rcases M.fmt d y e1 with ⟨z, h1, h2⟩ | ⟨i, h1, h2, h3⟩
    · subst h2 h1
      exact .inl ⟨z, r.1, r.2, PostE.here (rel := Dt G) (d := .str z) (v := .str z) m.at_ q1 ⟨rfl, r.2⟩⟩
    · subst h1 h3
      refine .inr ⟨i, r, h2, PostE.here (rel := Dt G) (d := .str (toString i)) (v := .str (toString i)) m.at_ q1 ⟨rfl, int_text_fits h2⟩⟩
theorem pj_of {es : List Expr} {fs : List (En → DW → R D)} (h : PEs X G W es fs) : PJ X es (fs.map fun f => tD G W f) := by
  induction h with
  | nil => exact .nil
  | cons he _ _ ih => exact .cons he ih
theorem tJs_of {Γ : Gm} : ∀ {ps : PXs} {acc : Str} {ρ : En} {w : DW} {σ : L2.St} {H : Hp} {Q : VK} {Bd : Addr → Prop}, At G Bd ρ w σ H → PostE G W (Dt G) Bd ρ σ H (evJ Γ ps acc ρ w) Q → acc.length ≤ 1000000 →
    tJs (ps.list.map fun p => tD G W (ev Γ p)) acc σ H fun out H1 => Q (V.str out) H1
  | .nil, acc, ρ, w, σ, H, Q, Bd, a, q, hl => by
    rw [evJ_nil] at q
    exact PostE.here (rel := Dt G) (d := .str acc) (v := .str acc) a q ⟨rfl, Nat.le_trans hl (by decide)⟩
  | .cons p ps, acc, ρ, w, σ, H, Q, Bd, a, q, hl => by
    rw [evJ_cons] at q
    refine ⟨Bd, ρ, w, a, PostE.bind a q fun d ρ1 w1 v H1 m r q1 => ?_⟩
    unfold jnD at q1
    cases d with
    | str y =>
      obtain ⟨e1, e2⟩ := r
      subst e1
      by_cases hz : (acc ++ y).length ≤ 1000000
      · simp only [hz, if_true] at q1
        exact ⟨y, rfl, Nat.le_trans hz (by decide), tJs_of m.at_ q1 hz⟩
      · simp only [hz, if_false] at q1
        exact q1.elim
    | _ => exact q1.elim
theorem c_joined {v1 v2 : Expr} {rest : List Expr} {ps : PXs} (h : PEs X G W (v1 :: v2 :: rest) (ps.list.map (ev Γ))) : PE X (.JoinedStr (v1 :: v2 :: rest) pos) (tD G W (ev Γ (.joined ps))) := by
  have hj := pj_of h
  rw [List.map_map] at hj
  refine PE.weak (pe_joined hj) fun σ H Q ⟨Bd, ρ, w, a, q⟩ => ?_
  rw [ev_joined] at q
  exact tJs_of a q (Nat.zero_le _)
/-! ### an empty dict; a chain; a comprehension -/
theorem c_dnew (t : Bool) : PE X (.Dict [] [] pos) (tDF G W (ev Γ (.dnew t))) := by
  cases t with
  | true =>
    refine PE.weak pe_dnewT fun σ H Q ⟨Bd, ρ, w, a, q⟩ => ?_
    rw [ev_dnew] at q
    exact fun d hd => q d H _ Stp.refl a.en (fun _ h => h) a.dk hd (Ext.new hd) ⟨[], upd_same, rfl, rfl⟩
  | false =>
    refine PE.weak pe_dnewK fun σ H Q ⟨Bd, ρ, w, a, q⟩ => ?_
    rw [ev_dnew] at q
    exact fun d hd => q d H _ Stp.refl a.en (fun _ h => h) a.dk hd (Ext.new hd) ⟨[], upd_same, rfl, rfl⟩
theorem PostF.bindI {r : R (List D)} {kk : List D → En → DW → R D} {Nn : It → Hp → Prop} {Q : VK} (a : At G Bd ρ w σ H) (h : PostF G W Bd ρ σ H (r.bind kk) Q)
    (hk : ∀ ds ρ1 w1 J H1, Mid G Bd ρ ρ1 w1 σ H H1 → WalkD G (okA Bd (owns ρ1 σ)) H1 J ds → PostF G W Bd ρ1 σ H1 (kk ds ρ1 w1) Q → Nn J H1) : PostI G W Bd ρ σ H r Nn := by
  cases r with
  | ok d ρ1 w1 => exact fun J H1 s en sb dk q => hk d ρ1 w1 J H1 ⟨a.step s en dk, s, sb⟩ q (h.shift s sb)
  | exc x ρ1 w1 => exact h
  | stuck => exact h
theorem lc_post {elt : PX} {tg : Tg} {it : PIt} {ifs : PXs} {own : List (Str × Nat)} {Q : VK} (hvs : ∀ i ∈ tgIx tg, i ∈ own.map (·.2)) (h : tDF G W (ev Γ (.lc elt tg it ifs own)) σ H Q) :
    tLc (tDI G W (evI Γ it)) (tG G.K tg) (tDT G WF (evTs Γ ifs)) (tD G WF (ev Γ elt)) (own.map (·.2)) σ H Q := by
  obtain ⟨Bd, ρ, w, a, q⟩ := h
  rw [ev_lc] at q
  exact ⟨Bd, ρ, w, a, PostF.bindI a q fun ds ρ1 w1 J H1 m wk q1 => lc_turns m.at_ wk q1 hvs⟩
theorem no_tests : PTs X [] (tDT G W (evTs Γ .nil)) := ⟨fun pins s σ H Q I ⟨Bd, ρ, w, a, q⟩ => pts_nil.run pins s σ H Q I (by
  rw [evTs_nil] at q
  exact q H Stp.refl a.en (fun _ h => h) a.dk)⟩
theorem dc_post {kx vx : PX} {tg : Tg} {it : PIt} {own : List (Str × Nat)} {Q : VK} (M : GmOk G P wd base k Γ) (hvs : ∀ i ∈ tgIx tg, i ∈ own.map (·.2)) (h : tDF G W (ev Γ (.dcT kx vx tg it own)) σ H Q) :
    tDct (tDI G W (evI Γ it)) (tG G.K tg) (tDT G WF (evTs Γ .nil)) (tD G WF (ev Γ kx)) (tD G WF (ev Γ vx)) (own.map (·.2)) σ H Q := by
  obtain ⟨Bd, ρ, w, a, q⟩ := h
  rw [ev_dcT] at q
  exact ⟨Bd, ρ, w, a, PostF.bindI a q fun ds ρ1 w1 J H1 m wk q1 => dc_turns m.at_ wk M.dcp (fun ρ w => evTs_nil) q1 hvs⟩
/-- a block's context -/
theorem Cxx.blk (c : Cxx G P wd base k N sc fa X W) {scope : Scope} (hk : scope.kind = .function) (s : Shared) (H : Hp) (C : Addr) (cl : List (Str × Addr)) (fp : List Addr) : Cxx G P wd base k N (relS scope sc) false (X.blk s H scope (compEnvC scope cl C X.env) fp) WF :=
  { K := c.K, mg := c.mg, prog := c.prog, w := c.w, base := c.base, gd := c.gd, room := c.room, calm := c.calm,
    tk := fun u s' ⟨_, _, _, _, _, _, _, _, _, _, _, _, _, _, _, _, z⟩ => z.elim, po := PassesOwn.never, xN := c.xN, nd := c.nd,
    sc := by rw [← c.sc]; rfl, kf := hk, fnl := fun z => by cases z }
end
end DL
set_option maxRecDepth 100000
set_option maxHeartbeats 4000000
set_option linter.all false
namespace DL
open PySem PySem.Spec PyProof.Rows L2
/-! ### the code beside the text -/
def okI (N : List Str) (x : Str) (i : Nat) : Bool := match N[i]? with | some y => x == y | none => false
theorem okI_of {N : List Str} {x : Str} {i : Nat} (h : okI N x i = true) : N[i]? = some x := by
  unfold okI at h
  cases e : N[i]? with
  | none => rw [e] at h; cases h
  | some y => rw [e] at h; rw [eq_of_beq h]
/-- looks at one node -/
def mName : Expr → (Str → Bool) → Bool | .Name y _, k => k y | _, _ => false
def mConst : Expr → (Const → Bool) → Bool | .Constant c _ _, k => k c | _, _ => false
def mBin : Expr → (Expr → Operator → Expr → Bool) → Bool | .BinOp a o b _, k => k a o b | _, _ => false
def mCmp : Expr → (Expr → CmpOp → Expr → Bool) → Bool | .Compare a [o] [b] _, k => k a o b | _, _ => false
def mNeg : Expr → (Expr → Bool) → Bool | .UnaryOp .USub a _, k => k a | _, _ => false
def mNot : Expr → (Expr → Bool) → Bool | .UnaryOp .Not a _, k => k a | _, _ => false
def mAnd : Expr → (Expr → Expr → Bool) → Bool
  | .BoolOp .And [a, b] _, k => k a b
  | .BoolOp .And (a :: b :: c :: r) p, k => k a (.BoolOp .And (b :: c :: r) p)
  | _, _ => false
def mOr : Expr → (Expr → Expr → Bool) → Bool
  | .BoolOp .Or [a, b] _, k => k a b
  | .BoolOp .Or (a :: b :: c :: r) p, k => k a (.BoolOp .Or (b :: c :: r) p)
  | _, _ => false
def mIf : Expr → (Expr → Expr → Expr → Bool) → Bool | .IfExp c a b _, k => k c a b | _, _ => false
def mTuple : Expr → (List Expr → Bool) → Bool | .Tuple es _ _, k => k es | _, _ => false
def mList : Expr → (List Expr → Bool) → Bool | .List es _, k => k es | _, _ => false
def mDict0 : Expr → Bool | .Dict [] [] _ => true | _ => false
def mSub : Expr → (Expr → Expr → Bool) → Bool | .Subscript a b _, k => k a b | _, _ => false
def mSlice : Expr → (Expr → Option Expr → Option Expr → Bool) → Bool | .Subscript a (.Slice l h none _) _, k => k a l h | _, _ => false
def mCall : Expr → (Str → List Expr → Bool) → Bool | .Call (.Name g _) xs [] _, k => k g xs | _, _ => false
def mMeth : Expr → (Expr → Str → Bool → List Expr → Bool) → Bool | .Call (.Attribute o m ap) xs [] cp, k => k o m (ap.endLine == cp.line) xs | _, _ => false
def mAttr : Expr → (Expr → Str → Bool) → Bool | .Attribute o f _, k => k o f | _, _ => false
def mLc : Expr → (Expr → Expr → Expr → List Expr → Scope → Bool) → Bool | .ListComp ee [⟨te, ie, fe, 0⟩] s _, k => k ee te ie fe s | _, _ => false
def mDc : Expr → (Expr → Expr → Expr → Expr → Scope → Bool) → Bool | .DictComp ke ve [⟨te, ie, [], 0⟩] s _, k => k ke ve te ie s | _, _ => false
def mJoin : Expr → (List Expr → Bool) → Bool | .JoinedStr (x :: y :: r) _, k => k (x :: y :: r) | _, _ => false
def mChain : Expr → (Expr → CmpOp → CmpOp → Expr → Expr → Bool) → Bool | .Compare a [o, p] [b, c] _, k => k a o p b c | _, _ => false
def mRev : Expr → (Expr → Bool) → Bool | .Subscript a (.Slice none none (some (.UnaryOp .USub (.Constant (.int 1) _ _) _)) _) _, k => k a | _, _ => false
def mCallK : Expr → (Str → List Keyword → Bool) → Bool | .Call (.Name g _) [] kws _, k => k g kws | _, _ => false
def mKw : List Keyword → (Str → Expr → List Keyword → Bool) → Bool | ⟨some y, e, _⟩ :: kws, k => k y e kws | _, _ => false
def mFmt : Expr → (Expr → Bool) → Bool | .FormattedValue e c none _, k => (c == -1) && k e | _, _ => false
section
variable {e : Expr}
theorem mName_of {k} (h : mName e k = true) : ∃ y p, e = .Name y p ∧ k y = true := by cases e <;> first | exact ⟨_, _, rfl, h⟩ | cases h
theorem mConst_of {k} (h : mConst e k = true) : ∃ c j p, e = .Constant c j p ∧ k c = true := by cases e <;> first | exact ⟨_, _, _, rfl, h⟩ | cases h
theorem mBin_of {k} (h : mBin e k = true) : ∃ a o b p, e = .BinOp a o b p ∧ k a o b = true := by cases e <;> first | exact ⟨_, _, _, _, rfl, h⟩ | cases h
theorem mCmp_of {k} (h : mCmp e k = true) : ∃ a o b p, e = .Compare a [o] [b] p ∧ k a o b = true := by
  unfold mCmp at h
  split at h
  · exact ⟨_, _, _, _, rfl, h⟩
  · cases h
theorem mNeg_of {k} (h : mNeg e k = true) : ∃ a p, e = .UnaryOp .USub a p ∧ k a = true := by
  unfold mNeg at h
  split at h
  · exact ⟨_, _, rfl, h⟩
  · cases h
theorem mNot_of {k} (h : mNot e k = true) : ∃ a p, e = .UnaryOp .Not a p ∧ k a = true := by
  unfold mNot at h
  split at h
  · exact ⟨_, _, rfl, h⟩
  · cases h
theorem mAnd_of {k} (h : mAnd e k = true) : ∃ a b p, (e = .BoolOp .And [a, b] p ∧ k a b = true) ∨ ∃ c r, e = .BoolOp .And (a :: b :: c :: r) p ∧ k a (.BoolOp .And (b :: c :: r) p) = true := by
  unfold mAnd at h
  split at h
  · exact ⟨_, _, _, .inl ⟨rfl, h⟩⟩
  · exact ⟨_, _, _, .inr ⟨_, _, rfl, h⟩⟩
  · cases h
theorem mOr_of {k} (h : mOr e k = true) : ∃ a b p, (e = .BoolOp .Or [a, b] p ∧ k a b = true) ∨ ∃ c r, e = .BoolOp .Or (a :: b :: c :: r) p ∧ k a (.BoolOp .Or (b :: c :: r) p) = true := by
  unfold mOr at h
  split at h
  · exact ⟨_, _, _, .inl ⟨rfl, h⟩⟩
  · exact ⟨_, _, _, .inr ⟨_, _, rfl, h⟩⟩
  · cases h
theorem mIf_of {k} (h : mIf e k = true) : ∃ c a b p, e = .IfExp c a b p ∧ k c a b = true := by cases e <;> first | exact ⟨_, _, _, _, rfl, h⟩ | cases h
theorem mTuple_of {k} (h : mTuple e k = true) : ∃ es x p, e = .Tuple es x p ∧ k es = true := by cases e <;> first | exact ⟨_, _, _, rfl, h⟩ | cases h
theorem mList_of {k} (h : mList e k = true) : ∃ es p, e = .List es p ∧ k es = true := by cases e <;> first | exact ⟨_, _, rfl, h⟩ | cases h
theorem mDict0_of (h : mDict0 e = true) : ∃ p, e = .Dict [] [] p := by
  unfold mDict0 at h
  split at h
  · exact ⟨_, rfl⟩
  · cases h
theorem mSub_of {k} (h : mSub e k = true) : ∃ a b p, e = .Subscript a b p ∧ k a b = true := by cases e <;> first | exact ⟨_, _, _, rfl, h⟩ | cases h
theorem mSlice_of {k} (h : mSlice e k = true) : ∃ a l u p2 p, e = .Subscript a (.Slice l u none p2) p ∧ k a l u = true := by
  unfold mSlice at h
  split at h
  · exact ⟨_, _, _, _, _, rfl, h⟩
  · cases h
theorem mCall_of {k} (h : mCall e k = true) : ∃ g p1 xs p, e = .Call (.Name g p1) xs [] p ∧ k g xs = true := by
  unfold mCall at h
  split at h
  · exact ⟨_, _, _, _, rfl, h⟩
  · cases h
theorem mMeth_of {k} (h : mMeth e k = true) : ∃ o m ap xs cp, e = .Call (.Attribute o m ap) xs [] cp ∧ k o m (ap.endLine == cp.line) xs = true := by
  unfold mMeth at h
  split at h
  · exact ⟨_, _, _, _, _, rfl, h⟩
  · cases h
theorem mAttr_of {k} (h : mAttr e k = true) : ∃ o f p, e = .Attribute o f p ∧ k o f = true := by cases e <;> first | exact ⟨_, _, _, rfl, h⟩ | cases h
theorem mLc_of {k} (h : mLc e k = true) : ∃ ee te ie fe s p, e = .ListComp ee [⟨te, ie, fe, 0⟩] s p ∧ k ee te ie fe s = true := by
  unfold mLc at h
  split at h
  · exact ⟨_, _, _, _, _, _, rfl, h⟩
  · cases h
theorem mDc_of {k} (h : mDc e k = true) : ∃ ke ve te ie s p, e = .DictComp ke ve [⟨te, ie, [], 0⟩] s p ∧ k ke ve te ie s = true := by
  unfold mDc at h
  split at h
  · exact ⟨_, _, _, _, _, _, rfl, h⟩
  · cases h
theorem mJoin_of {k} (h : mJoin e k = true) : ∃ x y r p, e = .JoinedStr (x :: y :: r) p ∧ k (x :: y :: r) = true := by
  unfold mJoin at h
  split at h
  · exact ⟨_, _, _, _, rfl, h⟩
  · cases h
theorem mChain_of {k} (h : mChain e k = true) : ∃ a o p b c q, e = .Compare a [o, p] [b, c] q ∧ k a o p b c = true := by
  unfold mChain at h
  split at h
  · exact ⟨_, _, _, _, _, _, rfl, h⟩
  · cases h
theorem mRev_of {k} (h : mRev e k = true) : ∃ a j p1 p2 p3 pos, e = .Subscript a (.Slice none none (some (.UnaryOp .USub (.Constant (.int 1) j p1) p2)) p3) pos ∧ k a = true := by
  unfold mRev at h
  split at h
  · exact ⟨_, _, _, _, _, _, rfl, h⟩
  · cases h
theorem mCallK_of {k} (h : mCallK e k = true) : ∃ g p1 kws p, e = .Call (.Name g p1) [] kws p ∧ k g kws = true := by
  unfold mCallK at h
  split at h
  · exact ⟨_, _, _, _, rfl, h⟩
  · cases h
theorem mKw_of {kws : List Keyword} {k} (h : mKw kws k = true) : ∃ y a p r, kws = ⟨some y, a, p⟩ :: r ∧ k y a r = true := by
  unfold mKw at h
  split at h
  · exact ⟨_, _, _, _, rfl, h⟩
  · cases h
theorem mFmt_of {k} (h : mFmt e k = true) : ∃ a p, e = .FormattedValue a (-1) none p ∧ k a = true := by
  unfold mFmt at h
  split at h
  · simp only [Bool.and_eq_true, beq_iff_eq] at h
    obtain ⟨h1, h2⟩ := h
    subst h1
    exact ⟨_, _, rfl, h2⟩
  · cases h
end
def erCon : D → Const → Bool
  | .int i, .int j => i == j
  | .str s, .str t => s == t && decide (s.length ≤ 100000)
  | .bl b, .bool c => b == c
  | .non, .none => true
  | _, _ => false
/-- names as a target -/
def erNames (fa : Bool) (N : List Str) (sc : Scope) : List (Str × Nat) → List Expr → Bool
  | [], [] => true
  | x :: xs, e :: es => mName e (fun y => x.1 == y) && okI N x.1 x.2 && locB fa sc x.1 && erNames fa N sc xs es
  | _, _ => false
def erTg (fa : Bool) (N : List Str) (sc : Scope) : Tg → Expr → Bool
  | .nm x i, e => mName e fun y => (x == y) && okI N x i && locB fa sc x
  | .tup xs, e => mTuple e fun es => erNames fa N sc xs es
def isTupE : Expr → Bool | .Tuple .. => true | _ => false
def isNilP : PXs → Bool | .nil => true | _ => false
/-- what yields pairs has a tuple as its target -/
def zipOk : PIt → Expr → Bool
  | .zip2 _ _, e => isTupE e
  | _, _ => true
mutual
def kr (N : List Str) (sc : Scope) (t : Bool) : PX → Expr → Bool
  | .var x i, e => (!t || plainT e) && mName e fun y => (x == y) && okI N x i && visB sc x && plainN x
  | .con d, e => (!t || plainT e) && mConst e fun c => erCon d c
  | .glob x, e => (!t || plainT e) && mName e fun y => (x == y) && glB sc x && plainN x
  | .bin o a b, e => (!t || plainT e) && mBin e fun ea o' eb => decide (o = o') && kr N sc false a ea && kr N sc false b eb
  | .cmp o a b, e => mCmp e fun ea o' eb => decide (o = o') && kr N sc false a ea && kr N sc false b eb && !behindInMarks o eb
  | .neg a, e => (!t || plainT e) && mNeg e fun ea => kr N sc false a ea
  | .nt a, e => mNot e fun ea => kr N sc t a ea
  | .and a b, e => mAnd e fun ea eb => kr N sc t a ea && kr N sc t b eb
  | .or a b, e => mOr e fun ea eb => kr N sc t a ea && kr N sc t b eb
  | .ife c a b, e => (!t || plainT e) && mIf e fun ec ea eb => kr N sc true c ec && kr N sc false a ea && kr N sc false b eb
  | .tup es, e => (!t || plainT e) && mTuple e fun xs => ers N sc es xs
  | .lst es, e => (!t || plainT e) && mList e fun xs => ers N sc es xs
  | .dnew _, e => (!t || plainT e) && mDict0 e
  | .sub a b, e => (!t || plainT e) && mSub e fun ea eb => kr N sc false a ea && kr N sc false b eb && notSlice eb
  | .slc a lo hi, e => (!t || plainT e) && mSlice e fun ea l h => kr N sc false a ea && erO N sc lo l && erO N sc hi h
  | .call f es, e => (!t || plainT e) && mCall e fun g xs => (f == g) && glB sc f && plainN f && ers N sc es xs
  | .callB f es, e => (!t || plainT e) && mCall e fun g xs => (f == g) && glB sc f && plainN f && !xs.isEmpty && ers N sc es xs
  | .sset a, e => (!t || plainT e) && mCall e fun g xs => match xs with
    | [e1] => (g == ("sorted" : Str)) && notStar e1 && mCall e1 fun g2 ys => match ys with
      | [ea] => (g2 == ("set" : Str)) && glB sc "sorted" && glB sc "set" && notStar ea && kr N sc false a ea
      | _ => false
    | _ => false
  | .b1 f a, e => (!t || plainT e) && mCall e fun g xs => match xs with
    | [ea] => (f == g) && glB sc f && plainN f && notStar ea && kr N sc false a ea
    | _ => false
  | .bn f es, e => (!t || plainT e) && mCall e fun g xs => (f == g) && glB sc f && plainN f && !xs.isEmpty && ers N sc es xs
  | .mth o m es, e => (!t || plainT e) && mMeth e fun eo m' ln xs => (m == m') && kr N sc false o eo && notCall eo && ln && decide (xs.length < 9) && ers N sc es xs
  | .imth o m es, e => (!t || plainT e) && mMeth e fun eo m' ln xs => (m == m') && kr N sc false o eo && notCall eo && ln && decide (xs.length < 9) && ers N sc es xs
  | .mut x i m es, e => (!t || plainT e) && mMeth e fun eo m' ln xs => mName eo (fun y => x == y) && (m == m') && okI N x i && visB sc x && plainN x && ln && decide (xs.length < 9) && ers N sc es xs
  | .fld o f, e => (!t || plainT e) && mAttr e fun eo f' => (f == f') && kr N sc false o eo && notCall eo
  | .isi a ty, e => (!t || plainT e) && mCall e fun g xs => match xs with
    | [ea, et] => (g == ("isinstance" : Str)) && mName et (fun t' => ty == t') && glB sc "isinstance" && glB sc ty && plainN ty && notStar ea && kr N sc false a ea
    | _ => false
  | .lc elt tg it ifs own, e => (!t || plainT e) && mLc e fun ee te ie fe s => blkC N sc s own && ((tgIx tg).all fun i => decide (i ∈ own.map (·.2))) && erTg false N (relS s sc) tg te && (zipOk it te && erI N sc it ie) && notSet ie && erTs N (relS s sc) ifs fe && kr N (relS s sc) false elt ee
  | .own2 (.bin o) a b, e => (!t || plainT e) && mBin e fun ea o' eb => decide (o = o') && kr N sc false a ea && kr N sc false b eb
  | .own2 (.cmp o) a b, e => (!t || plainT e) && mCmp e fun ea o' eb => decide (o = o') && kr N sc false a ea && kr N sc false b eb && !behindInMarks o eb
  | .dcT k v tg it own, e => (!t || plainT e) && mDc e fun ke ve te ie s => blkC N sc s own && ((tgIx tg).all fun i => decide (i ∈ own.map (·.2))) && erTg false N (relS s sc) tg te && (zipOk it te && erI N sc it ie) && notSet ie && kr N (relS s sc) false k ke && kr N (relS s sc) false v ve
  | .joined ps, e => (!t || plainT e) && mJoin e fun xs => ers N sc ps xs
  | .fmt a, e => (!t || plainT e) && mFmt e fun ea => kr N sc false a ea
  | .chain o p a b c, e => (!t || plainT e) && mChain e fun ea o' p' eb ec => decide (o = o') && decide (p = p') && kr N sc false a ea && kr N sc false b eb && kr N sc false c ec && !lastMarks [o, p] [eb, ec]
  | .rev a, e => (!t || plainT e) && mRev e fun ea => kr N sc false a ea
  | .callK f es ks vs, e => (!t || plainT e) && mCallK e fun g kws => (f == g) && glB sc f && plainN f && isNilP es && erK N sc vs ks kws
  | _, _ => false
def erK (N : List Str) (sc : Scope) : PXs → List Str → List Keyword → Bool
  | .nil, ks, kws => ks.isEmpty && kws.isEmpty
  | .cons p ps, ks, kws => match ks with
    | x :: ks => mKw kws fun y e r => (x == y) && kr N sc false p e && erK N sc ps ks r
    | [] => false
def ers (N : List Str) (sc : Scope) : PXs → List Expr → Bool
  | .nil, es => es.isEmpty
  | .cons p ps, es => match es with
    | e :: es => notStar e && kr N sc false p e && ers N sc ps es
    | [] => false
def erO (N : List Str) (sc : Scope) : PXs → Option Expr → Bool
  | .nil, o => o.isNone
  | .cons p ps, o => match o with
    | some e => kr N sc false p e && (match ps with | .nil => true | _ => false)
    | none => false
def erTs (N : List Str) (sc : Scope) : PXs → List Expr → Bool
  | .nil, es => es.isEmpty
  | .cons p ps, es => match es with
    | [e] => kr N sc true p e && (match ps with | .nil => true | _ => false)
    | _ => false
def erI (N : List Str) (sc : Scope) : PIt → Expr → Bool
  | .range1 a, e => mCall e fun g xs => match xs with
    | [ea] => (g == ("range" : Str)) && glB sc "range" && notStar ea && kr N sc false a ea
    | _ => false
  | .range2 a b, e => mCall e fun g xs => match xs with
    | [ea, eb] => (g == ("range" : Str)) && glB sc "range" && notStar ea && notStar eb && kr N sc false a ea && kr N sc false b eb
    | _ => false
  | .zip2 a b, e => mCall e fun g xs => match xs with
    | [ea, eb] => (g == ("zip" : Str)) && glB sc "zip" && notStar ea && notStar eb && kr N sc false a ea && kr N sc false b eb
    | _ => false
  | .val a, e => kr N sc false a e
  | _, _ => false
end
abbrev er (N : List Str) (sc : Scope) (p : PX) (e : Expr) : Bool := kr N sc false p e
abbrev erT (N : List Str) (sc : Scope) (p : PX) (e : Expr) : Bool := kr N sc true p e
end DL
set_option maxRecDepth 100000
set_option maxHeartbeats 4000000
set_option linter.all false
namespace DL
open PySem PySem.Spec PyProof.Rows L2
section
variable {G : GC} {P : Program} {wd : World} {base : Heap} {k : Nat} {N : List Str} {Γ : Gm}
theorem ixv {sc : Scope} {fa : Bool} {X : Cx} {W : WX} {p : PX} {e : Expr} (c : Cxx G P wd base k N sc fa X W) (h : er N sc p e = true) : ∀ i, p.ix = some i → PE X e (tVar i) := fun i hi => by
  cases p <;> first | (cases hi; done) | skip
  rw [er, kr] at h
  try simp only [Bool.not_false, Bool.true_or, Bool.true_and] at h
  obtain ⟨y, pos, e1, h⟩ := mName_of h
  simp only [Bool.and_eq_true, beq_iff_eq] at h
  obtain ⟨⟨⟨h1, h2⟩, h3⟩, h4⟩ := h
  subst e1 h1
  cases hi
  exact c_tvar c (okI_of h2) h3 h4
theorem con_of {d : D} {cc : Const} (h : erCon d cc = true) : ∃ v, (∀ X j p, PE X (.Constant cc j p) (tC v)) ∧ ∀ ok H, Dt G ok H d v := by
  unfold erCon at h
  split at h
  · cases eq_of_beq h
    exact ⟨_, fun _ _ _ => pe_int, fun _ _ => rfl⟩
  · simp only [Bool.and_eq_true, beq_iff_eq, decide_eq_true_eq] at h
    obtain ⟨h1, h2⟩ := h
    subst h1
    exact ⟨_, fun _ _ _ => pe_str, fun _ _ => ⟨rfl, Nat.le_trans h2 (by decide)⟩⟩
  · cases eq_of_beq h
    exact ⟨_, fun _ _ _ => pe_bl, fun _ _ => rfl⟩
  · exact ⟨_, fun _ _ _ => pe_non, fun _ _ => rfl⟩
  · cases h
theorem names_of {fa : Bool} {sc : Scope} : ∀ {xs : List (Str × Nat)} {es : List Expr}, erNames fa N sc xs es = true → es.length = xs.length ∧ es.all notStar = true ∧ ∀ (i : Nat) (x : Str × Nat) (e : Expr), xs[i]? = some x → es[i]? = some e → ∃ p : Pos, e = Expr.Name x.1 p ∧ N[x.2]? = some x.1 ∧ locB fa sc x.1 = true
  | [], [], _ => ⟨rfl, rfl, fun i x e h => by simp at h⟩
  | x :: xs, e :: es, h => by
    unfold erNames at h
    simp only [Bool.and_eq_true] at h
    obtain ⟨⟨⟨h1, h2⟩, h3⟩, h4⟩ := h
    obtain ⟨y, p, e1, h5⟩ := mName_of h1
    cases eq_of_beq h5
    subst e1
    obtain ⟨q1, q2, q3⟩ := names_of h4
    refine ⟨by simp [q1], by simp [q2, notStar], fun i z u a b => ?_⟩
    cases i with
    | zero =>
      cases Option.some.inj (show some x = some z by simpa using a)
      cases Option.some.inj (show some (Expr.Name x.1 p) = some u by simpa using b)
      exact ⟨p, rfl, okI_of h2, h3⟩
    | succ i => exact q3 i z u (by simpa using a) (by simpa using b)
  | [], _ :: _, h => by cases h
  | _ :: _, [], h => by cases h
theorem tg_of {sc : Scope} {fa : Bool} {X : Cx} {W : WX} {tg : Tg} {e : Expr} (c : Cxx G P wd base k N sc fa X W) (h : erTg fa N sc tg e = true) : PG X e (tG G.K tg) := by
  cases tg with
  | nm x i =>
    obtain ⟨y, p, e1, h⟩ := mName_of h
    simp only [Bool.and_eq_true, beq_iff_eq] at h
    obtain ⟨⟨h1, h2⟩, h3⟩ := h
    subst e1 h1
    obtain ⟨l1, l2⟩ := loc_of h3
    exact pg_name (by rw [c.xN]; exact c.nd) (by rw [c.xN]; exact okI_of h2) (by rw [c.sc]; exact l1) (l2.imp (fun z => c.fnl z x) fun z => by rw [c.sc]; exact z)
  | tup xs =>
    obtain ⟨es, x1, p, e1, h2⟩ := mTuple_of h
    clear h
    subst e1
    obtain ⟨hl, hst, hn⟩ := names_of h2
    clear h2
    have hn1 : (assignEach es X.env).length = xs.length := by
      rw [← hl]
      clear hl hn
      induction es with
      | nil => rfl
      | cons t ts ih =>
        simp only [List.all_cons, Bool.and_eq_true] at hst
        rw [assignEach_of hst.1, List.length_cons, ih hst.2, List.length_cons]
    have hst1 : (assignEach es X.env).findIdx? (·.1) = none := by
      clear hl hn hn1
      induction es with
      | nil => rfl
      | cons t ts ih =>
        simp only [List.all_cons, Bool.and_eq_true] at hst
        rw [assignEach_of hst.1, List.findIdx?_cons]
        show (if false = true then some 0 else ((assignEach ts X.env).findIdx? (·.1)).map (· + 1)) = none
        rw [ih hst.2]
        rfl
    have q := pg_tup (pos := p) (k := x1) c.calm (g_names c hl hn) hn1 hst1
    rw [c.K] at q
    exact q
def SE (G : GC) (P : Program) (wd : World) (base : Heap) (k : Nat) (N : List Str) (Γ : Gm) (p : PX) : Prop := ∀ {sc : Scope} {fa : Bool} {X : Cx} {W : WX} {e : Expr}, Cxx G P wd base k N sc fa X W → er N sc p e = true → PE X e (tD G W (ev Γ p))
def ST (G : GC) (P : Program) (wd : World) (base : Heap) (k : Nat) (N : List Str) (Γ : Gm) (p : PX) : Prop := ∀ {sc : Scope} {fa : Bool} {X : Cx} {W : WX} {e : Expr}, Cxx G P wd base k N sc fa X W → erT N sc p e = true → PT X e (tDT G W (evT Γ p))
def SW (G : GC) (P : Program) (wd : World) (base : Heap) (k : Nat) (N : List Str) (Γ : Gm) (p : PX) : Prop := ∀ {sc : Scope} {fa : Bool} {X : Cx} {W : WX} {op : BoolOp} {es : List Expr} {pos : Pos}, Cxx G P wd base k N sc fa X W → erT N sc p (.BoolOp op es pos) = true → PW X (.BoolOp op es pos) (tDT G W (evT Γ p))
structure Snd (G : GC) (P : Program) (wd : World) (base : Heap) (k : Nat) (N : List Str) (Γ : Gm) (p : PX) : Prop where
  e : SE G P wd base k N Γ p
  t : ST G P wd base k N Γ p
  w : SW G P wd base k N Γ p
def plainP : PX → Bool | .and .. => false | .or .. => false | .nt .. => false | .cmp .. => false | _ => true
theorem erT_plain {sc : Scope} {p : PX} {e : Expr} (hp : plainP p = true) : erT N sc p e = (plainT e && er N sc p e) := by
  cases p <;> first | (exact absurd hp Bool.false_ne_true) | (simp only [erT, er, kr, Bool.not_true, Bool.false_or, Bool.not_false, Bool.true_or, Bool.true_and, Bool.and_false]; done) | (rename_i g _ _; cases g <;> simp only [erT, er, kr, Bool.not_true, Bool.false_or, Bool.not_false, Bool.true_or, Bool.true_and, Bool.and_false])
theorem mkS (M : GmOk G P wd base k Γ) {p : PX} (hp : plainP p = true) (hE : SE G P wd base k N Γ p) : Snd G P wd base k N Γ p where
  e := hE
  t := fun {sc fa X W e} c h => by
    rw [erT_plain hp] at h
    simp only [Bool.and_eq_true] at h
    exact t_val M c (by cases p <;> first | rfl | exact absurd hp Bool.false_ne_true) (c_brw (hE c h.2) (ixv c h.2)) h.1
  w := fun {sc fa X W op es pos} c h => by
    rw [erT_plain hp] at h
    cases h
mutual
theorem sound (M : GmOk G P wd base k Γ) : ∀ (p : PX), Snd G P wd base k N Γ p
  | .var x i => mkS M rfl fun {sc fa X W e} c h => by
    rw [er, kr] at h
    try simp only [Bool.not_false, Bool.true_or, Bool.true_and] at h
    obtain ⟨y, pos, e1, h⟩ := mName_of h
    simp only [Bool.and_eq_true, beq_iff_eq] at h
    obtain ⟨⟨⟨h1, h2⟩, h3⟩, h4⟩ := h
    subst e1 h1
    exact c_var c (okI_of h2) h3 h4
  | .con d => mkS M rfl fun {sc fa X W e} c h => by
    rw [er, kr] at h
    try simp only [Bool.not_false, Bool.true_or, Bool.true_and] at h
    obtain ⟨cc, j, pos, e1, h⟩ := mConst_of h
    subst e1
    obtain ⟨v, h1, h2⟩ := con_of (G := G) h
    exact c_con (h1 X j pos) h2
  | .glob x => mkS M rfl fun {sc fa X W e} c h => by
    rw [er, kr] at h
    try simp only [Bool.not_false, Bool.true_or, Bool.true_and] at h
    obtain ⟨y, pos, e1, h⟩ := mName_of h
    simp only [Bool.and_eq_true, beq_iff_eq] at h
    obtain ⟨⟨h1, h2⟩, h3⟩ := h
    subst e1 h1
    exact c_glob M c h2 h3
  | .bin o a b => mkS M rfl fun {sc fa X W e} c h => by
    rw [er, kr] at h
    try simp only [Bool.not_false, Bool.true_or, Bool.true_and] at h
    obtain ⟨ea, o', eb, pos, e1, h⟩ := mBin_of h
    simp only [Bool.and_eq_true, decide_eq_true_eq] at h
    obtain ⟨⟨h1, h2⟩, h3⟩ := h
    subst e1 h1
    exact c_bin (M.bin X W c.toCxy o) (c_opd ((sound M a).e c h2) (ixv c h2)) (c_brw ((sound M b).e c h3) (ixv c h3))
  | .cmp o a b =>
    { e := fun {sc fa X W e} c h => by
        rw [er, kr] at h
        try simp only [Bool.not_false, Bool.true_or, Bool.true_and] at h
        obtain ⟨ea, o', eb, pos, e1, h⟩ := mCmp_of h
        simp only [Bool.and_eq_true, decide_eq_true_eq, Bool.not_eq_true'] at h
        obtain ⟨⟨⟨h1, h2⟩, h3⟩, h4⟩ := h
        subst e1 h1
        exact c_cmp (M.cmp X W c.toCxy o) (c_opd ((sound M a).e c h2) (ixv c h2)) (c_brw ((sound M b).e c h3) (ixv c h3)) h4
      t := fun {sc fa X W e} c h => by
        rw [erT, kr] at h
        obtain ⟨ea, o', eb, pos, e1, h⟩ := mCmp_of h
        simp only [Bool.and_eq_true, decide_eq_true_eq, Bool.not_eq_true'] at h
        obtain ⟨⟨⟨h1, h2⟩, h3⟩, h4⟩ := h
        subst e1 h1
        exact t_cmp M c (c_opd ((sound M a).e c h2) (ixv c h2)) (c_brw ((sound M b).e c h3) (ixv c h3)) h4
      w := fun {sc fa X W op es pos} c h => by
        rw [erT, kr] at h
        obtain ⟨ea, o', eb, pos, e1, h⟩ := mCmp_of h
        cases e1 }
  | .neg a => mkS M rfl fun {sc fa X W e} c h => by
    rw [er, kr] at h
    try simp only [Bool.not_false, Bool.true_or, Bool.true_and] at h
    obtain ⟨ea, pos, e1, h⟩ := mNeg_of h
    subst e1
    exact c_neg (M.neg X W c.toCxy) ((sound M a).e c h)
  | .nt a =>
    { e := fun {sc fa X W e} c h => by
        rw [er, kr] at h
        try simp only [Bool.not_false, Bool.true_or, Bool.true_and] at h
        obtain ⟨ea, pos, e1, h⟩ := mNot_of h
        subst e1
        exact c_nt M c (c_brw ((sound M a).e c h) (ixv c h))
      t := fun {sc fa X W e} c h => by
        rw [erT, kr] at h
        obtain ⟨ea, pos, e1, hz⟩ := mNot_of h
        subst e1
        exact t_nt ((sound M a).t c hz)
      w := fun {sc fa X W op es pos} c h => by
        rw [erT, kr] at h
        obtain ⟨ea, pos, e1, hz⟩ := mNot_of h
        cases e1 }
  | .and a b =>
    { e := fun {sc fa X W e} c h => by
        rw [er, kr] at h
        try simp only [Bool.not_false, Bool.true_or, Bool.true_and] at h
        obtain ⟨ea, eb, pos, hq⟩ := mAnd_of h
        clear h
        rcases hq with ⟨e1, hz⟩ | ⟨c3, r, e1, hz⟩
        · simp only [Bool.and_eq_true] at hz
          subst e1
          exact c_and M c ((sound M a).e c hz.1) (pe_one ((sound M b).e c hz.2))
        · simp only [Bool.and_eq_true] at hz
          subst e1
          exact c_and M c ((sound M a).e c hz.1) ((sound M b).e c hz.2)
      t := fun {sc fa X W e} c h => by
        rw [erT, kr] at h
        obtain ⟨ea, eb, pos, hq⟩ := mAnd_of h
        clear h
        rcases hq with ⟨e1, hz⟩ | ⟨c3, r, e1, hz⟩
        · simp only [Bool.and_eq_true] at hz
          subst e1
          exact (t_and ((sound M a).t c hz.1) (t_and1 ((sound M b).t c hz.2))).pt
        · simp only [Bool.and_eq_true] at hz
          subst e1
          exact (t_and ((sound M a).t c hz.1) ((sound M b).w c hz.2)).pt
      w := fun {sc fa X W op es pos} c h => by
        rw [erT, kr] at h
        obtain ⟨ea, eb, pos', hq⟩ := mAnd_of h
        clear h
        rcases hq with ⟨e1, hz⟩ | ⟨c3, r, e1, hz⟩
        · simp only [Bool.and_eq_true] at hz
          cases e1
          exact t_and ((sound M a).t c hz.1) (t_and1 ((sound M b).t c hz.2))
        · simp only [Bool.and_eq_true] at hz
          cases e1
          exact t_and ((sound M a).t c hz.1) ((sound M b).w c hz.2) }
  | .or a b =>
    { e := fun {sc fa X W e} c h => by
        rw [er, kr] at h
        try simp only [Bool.not_false, Bool.true_or, Bool.true_and] at h
        obtain ⟨ea, eb, pos, hq⟩ := mOr_of h
        clear h
        rcases hq with ⟨e1, hz⟩ | ⟨c3, r, e1, hz⟩
        · simp only [Bool.and_eq_true] at hz
          subst e1
          exact c_or M c ((sound M a).e c hz.1) (pe_one ((sound M b).e c hz.2))
        · simp only [Bool.and_eq_true] at hz
          subst e1
          exact c_or M c ((sound M a).e c hz.1) ((sound M b).e c hz.2)
      t := fun {sc fa X W e} c h => by
        rw [erT, kr] at h
        obtain ⟨ea, eb, pos, hq⟩ := mOr_of h
        clear h
        rcases hq with ⟨e1, hz⟩ | ⟨c3, r, e1, hz⟩
        · simp only [Bool.and_eq_true] at hz
          subst e1
          exact (t_or ((sound M a).t c hz.1) (t_or1 ((sound M b).t c hz.2))).pt
        · simp only [Bool.and_eq_true] at hz
          subst e1
          exact (t_or ((sound M a).t c hz.1) ((sound M b).w c hz.2)).pt
      w := fun {sc fa X W op es pos} c h => by
        rw [erT, kr] at h
        obtain ⟨ea, eb, pos', hq⟩ := mOr_of h
        clear h
        rcases hq with ⟨e1, hz⟩ | ⟨c3, r, e1, hz⟩
        · simp only [Bool.and_eq_true] at hz
          cases e1
          exact t_or ((sound M a).t c hz.1) (t_or1 ((sound M b).t c hz.2))
        · simp only [Bool.and_eq_true] at hz
          cases e1
          exact t_or ((sound M a).t c hz.1) ((sound M b).w c hz.2) }
  | .ife t a b => mkS M rfl fun {sc fa X W e} c h => by
    rw [er, kr] at h
    try simp only [Bool.not_false, Bool.true_or, Bool.true_and] at h
    obtain ⟨ec, ea, eb, pos, e1, h⟩ := mIf_of h
    simp only [Bool.and_eq_true] at h
    obtain ⟨⟨h1, h2⟩, h3⟩ := h
    subst e1
    exact c_ife ((sound M t).t c h1) ((sound M a).e c h2) ((sound M b).e c h3)
  | .tup es => mkS M rfl fun {sc fa X W e} c h => by
    rw [er, kr] at h
    try simp only [Bool.not_false, Bool.true_or, Bool.true_and] at h
    obtain ⟨xs, x1, pos, e1, h⟩ := mTuple_of h
    subst e1
    have q := pa_of (soundEs M es c h)
    rw [← evs_seq] at q
    exact c_tup q
  | .lst es => mkS M rfl fun {sc fa X W e} c h => by
    rw [er, kr] at h
    try simp only [Bool.not_false, Bool.true_or, Bool.true_and] at h
    obtain ⟨xs, pos, e1, h⟩ := mList_of h
    subst e1
    have q := pa_of (soundEs M es c h)
    rw [← evs_seq] at q
    exact c_ofF (c_lstF q)
  | .dnew t => mkS M rfl fun {sc fa X W e} c h => by
    rw [er, kr] at h
    try simp only [Bool.not_false, Bool.true_or, Bool.true_and] at h
    obtain ⟨pos, e1⟩ := mDict0_of h
    subst e1
    exact c_ofF (c_dnew t)
  | .sub a b => mkS M rfl fun {sc fa X W e} c h => by
    rw [er, kr] at h
    try simp only [Bool.not_false, Bool.true_or, Bool.true_and] at h
    obtain ⟨ea, eb, pos, e1, h⟩ := mSub_of h
    simp only [Bool.and_eq_true] at h
    obtain ⟨⟨h1, h2⟩, h3⟩ := h
    subst e1
    exact c_sub (M.get X W c.toCxy ea eb (plainIx_of h3)) (c_opd ((sound M a).e c h1) (ixv c h1)) (c_brw ((sound M b).e c h2) (ixv c h2))
  | .slc a lo hi => mkS M rfl fun {sc fa X W e} c h => by
    rw [er, kr] at h
    try simp only [Bool.not_false, Bool.true_or, Bool.true_and] at h
    obtain ⟨ea, l, u, p2, pos, e1, h⟩ := mSlice_of h
    simp only [Bool.and_eq_true] at h
    obtain ⟨⟨h1, h2⟩, h3⟩ := h
    subst e1
    exact c_slc M c ((sound M a).e c h1) (soundO M lo c h2) (soundO M hi c h3)
  | .call f es => mkS M rfl fun {sc fa X W e} c h => by
    rw [er, kr] at h
    try simp only [Bool.not_false, Bool.true_or, Bool.true_and] at h
    obtain ⟨g, p1, xs, pos, e1, h⟩ := mCall_of h
    simp only [Bool.and_eq_true, beq_iff_eq] at h
    obtain ⟨⟨⟨h1, h2⟩, h3⟩, h4⟩ := h
    subst e1 h1
    have hs := soundEs M es c h4
    have q := pa_of hs
    rw [← evs_seq] at q
    refine c_call M c h2 h3 q hs.stars fun z => ?_
    subst z
    cases es with
    | nil => rfl
    | cons p ps => rw [ers] at h4; cases h4
  | .callB f es => mkS M rfl fun {sc fa X W e} c h => by
    rw [er, kr] at h
    try simp only [Bool.not_false, Bool.true_or, Bool.true_and] at h
    obtain ⟨g, p1, xs, pos, e1, h⟩ := mCall_of h
    simp only [Bool.and_eq_true, beq_iff_eq, Bool.not_eq_true'] at h
    obtain ⟨⟨⟨⟨h1, h2⟩, h3⟩, h4⟩, h5⟩ := h
    subst e1 h1
    obtain ⟨q1, q2⟩ := soundZ M es c h5
    cases xs with
    | nil => cases h4
    | cons x xs => exact c_callB M c h2 h3 q1 q2
  | .sset a => mkS M rfl fun {sc fa X W e} c h => by
    rw [er, kr] at h
    try simp only [Bool.not_false, Bool.true_or, Bool.true_and] at h
    obtain ⟨g, p1, xs, pos, e1, h⟩ := mCall_of h
    split at h
    · rename_i e0
      simp only [Bool.and_eq_true, beq_iff_eq] at h
      obtain ⟨⟨h1, h2⟩, h3⟩ := h
      obtain ⟨g2, p2, ys, pos2, e2, h3⟩ := mCall_of h3
      split at h3
      · simp only [Bool.and_eq_true, beq_iff_eq] at h3
        obtain ⟨⟨⟨⟨h4, h5⟩, h6⟩, h7⟩, h8⟩ := h3
        subst e1 e2 h1 h4
        rw [ev_sset]
        cases hF : Γ.sset with
        | none => exact ⟨fun pins s σ H Q I ⟨Bd, ρ, w, a, q⟩ => q.elim⟩
        | some F => exact c_ofF (c_sset M c h5 h6 hF (c_brw ((sound M a).e c h8) (ixv c h8)) h7)
      · cases h3
    · cases h
  | .b1 f a => mkS M rfl fun {sc fa X W e} c h => by
    rw [er, kr] at h
    try simp only [Bool.not_false, Bool.true_or, Bool.true_and] at h
    obtain ⟨g, p1, xs, pos, e1, h⟩ := mCall_of h
    split at h
    · simp only [Bool.and_eq_true, beq_iff_eq] at h
      obtain ⟨⟨⟨⟨h1, h2⟩, h3⟩, h4⟩, h5⟩ := h
      subst e1 h1
      have hb := c_brw ((sound M a).e c h5) (ixv c h5)
      rw [ev_b1]
      unfold b1D
      cases hF : Γ.bF f with
      | some F => exact c_ofF (c_bF M c h2 h3 hF hb h4)
      | none =>
        cases h1' : Γ.b1 f with
        | some F => exact c_b1 M c h2 h3 h1' hb h4
        | none => exact ⟨fun pins s σ H Q I ⟨Bd, ρ, w, a, q⟩ => q.elim⟩
    · cases h
  | .bn f es => mkS M rfl fun {sc fa X W e} c h => by
    rw [er, kr] at h
    try simp only [Bool.not_false, Bool.true_or, Bool.true_and] at h
    obtain ⟨g, p1, xs, pos, e1, h⟩ := mCall_of h
    simp only [Bool.and_eq_true, beq_iff_eq] at h
    obtain ⟨⟨⟨⟨h1, h2⟩, h3⟩, h4⟩, h5⟩ := h
    subst e1 h1
    have hs := soundEs M es c h5
    rw [ev_bn, evs_seq]
    cases hF : Γ.bn f with
    | none => exact ⟨fun pins s σ H Q I ⟨Bd, ρ, w, a, q⟩ => q.elim⟩
    | some F =>
      cases xs with
      | nil => cases h4
      | cons x xs => exact c_bn M c h2 h3 hF hs
  | .mth o m es => mkS M rfl fun {sc fa X W e} c h => by
    rw [er, kr] at h
    try simp only [Bool.not_false, Bool.true_or, Bool.true_and] at h
    obtain ⟨eo, m', ap, xs, cp, e1, h⟩ := mMeth_of h
    simp only [Bool.and_eq_true, beq_iff_eq, decide_eq_true_eq] at h
    obtain ⟨⟨⟨⟨⟨h1, h2⟩, h3⟩, h4⟩, h5⟩, h6⟩ := h
    subst e1 h1
    rw [ev_mth, evs_seq]
    cases hF : Γ.m m with
    | none => exact ⟨fun pins s σ H Q I ⟨Bd, ρ, w, a, q⟩ => q.elim⟩
    | some F => exact M.m m F.1 F.2 hF X W c.toCxy eo ap xs cp o (ev Γ o) _ h3 (beq_iff_eq.mpr h4) h5 (c_opd ((sound M o).e c h2) (ixv c h2)) (soundEs M es c h6)
  | .imth o m es => mkS M rfl fun {sc fa X W e} c h => by
    rw [er, kr] at h
    try simp only [Bool.not_false, Bool.true_or, Bool.true_and] at h
    obtain ⟨eo, m', ap, xs, cp, e1, h⟩ := mMeth_of h
    simp only [Bool.and_eq_true, beq_iff_eq, decide_eq_true_eq] at h
    obtain ⟨⟨⟨⟨⟨h1, h2⟩, h3⟩, h4⟩, h5⟩, h6⟩ := h
    subst e1 h1
    rw [ev_imth, evs_seq]
    cases hF : Γ.im m with
    | none => exact ⟨fun pins s σ H Q I ⟨Bd, ρ, w, a, q⟩ => q.elim⟩
    | some F => exact M.im m F.1 F.2 hF X W c.toCxy eo ap xs cp (ev Γ o) _ h3 (beq_iff_eq.mpr h4) h5 ((sound M o).e c h2) (soundEs M es c h6)
  | .mut x i m es => mkS M rfl fun {sc fa X W e} c h => by
    rw [er, kr] at h
    try simp only [Bool.not_false, Bool.true_or, Bool.true_and] at h
    obtain ⟨eo, m', ap, xs, cp, e1, h⟩ := mMeth_of h
    simp only [Bool.and_eq_true, beq_iff_eq, decide_eq_true_eq] at h
    obtain ⟨⟨⟨⟨⟨⟨⟨h1, h2⟩, h3⟩, h4⟩, h5⟩, h6⟩, h7⟩, h8⟩ := h
    subst e1 h2
    obtain ⟨y, p1, e2, h9⟩ := mName_of h1
    cases eq_of_beq h9
    subst e2
    rw [ev_mut, evs_seq]
    cases hF : Γ.mu m with
    | none => exact ⟨fun pins s σ H Q I ⟨Bd, ρ, w, a, q⟩ => q.elim⟩
    | some F => exact M.mu m F.1 F.2 hF X W c.toCxy _ ap xs cp i _ rfl (beq_iff_eq.mpr h6) h7 (c_tvar c (okI_of h3) h4 h5) (soundEs M es c h8)
  | .fld o f => mkS M rfl fun {sc fa X W e} c h => by
    rw [er, kr] at h
    try simp only [Bool.not_false, Bool.true_or, Bool.true_and] at h
    obtain ⟨eo, f', pos, e1, h⟩ := mAttr_of h
    simp only [Bool.and_eq_true, beq_iff_eq] at h
    obtain ⟨⟨h1, h2⟩, h3⟩ := h
    subst e1 h1
    exact c_fld M c (c_brw ((sound M o).e c h2) (ixv c h2)) h3
  | .isi a t => mkS M rfl fun {sc fa X W e} c h => by
    rw [er, kr] at h
    try simp only [Bool.not_false, Bool.true_or, Bool.true_and] at h
    obtain ⟨g, p1, xs, pos, e1, h⟩ := mCall_of h
    split at h
    · simp only [Bool.and_eq_true, beq_iff_eq] at h
      obtain ⟨⟨⟨⟨⟨⟨h1, h2⟩, h3⟩, h4⟩, h5⟩, h6⟩, h7⟩ := h
      obtain ⟨y, p2, e2, h8⟩ := mName_of h2
      cases eq_of_beq h8
      subst e1 h1 e2
      exact c_isi M c (c_brw ((sound M a).e c h7) (ixv c h7)) h3 h4 h5 h6
    · cases h
  | .lc elt tg it ifs own => mkS M rfl fun {sc fa X W e} c h => by
    rw [er, kr] at h
    try simp only [Bool.not_false, Bool.true_or, Bool.true_and] at h
    obtain ⟨ee, te, ie, fe, s, pos, e1, h⟩ := mLc_of h
    simp only [Bool.and_eq_true] at h
    obtain ⟨⟨⟨⟨⟨⟨h1, h2⟩, h3⟩, h4⟩, h5⟩, h6⟩, h7⟩ := h
    subst e1
    have hvs : ∀ i ∈ tgIx tg, i ∈ own.map (·.2) := fun i hi => by
      have := List.all_eq_true.mp h2 i hi
      simpa using this
    have bo : BlkOk X.N X.env.scope s own := blkOk_by (by rw [c.xN, c.sc]; exact h1)
    refine c_ofF (PE.weak (pe_lc c.calm (by rw [c.xN]; exact c.nd) (soundI M it c (by rw [Bool.and_eq_true]; exact h4)) bo (fun s' H' C cl fp => tg_of (c.blk bo.kind s' H' C cl fp) h3) (fun s' H' C cl fp => soundTs M ifs (c.blk bo.kind s' H' C cl fp) h6) (fun s' H' C cl fp => (sound M elt).e (c.blk bo.kind s' H' C cl fp) h7) (fold_of h5 _)) fun σ H Q q => ?_)
    exact lc_post hvs q
  | .own2 (.bin o) a b => mkS M rfl fun {sc fa X W e} c h => by
    rw [er, kr] at h
    try simp only [Bool.not_false, Bool.true_or, Bool.true_and] at h
    obtain ⟨ea, o', eb, pos, e1, h⟩ := mBin_of h
    simp only [Bool.and_eq_true, decide_eq_true_eq] at h
    obtain ⟨⟨h1, h2⟩, h3⟩ := h
    subst e1 h1
    exact c_own2b (M.own2 X W c.toCxy (.bin o)) ((sound M a).e c h2) ((sound M b).e c h3)
  | .own2 (.cmp o) a b => mkS M rfl fun {sc fa X W e} c h => by
    rw [er, kr] at h
    try simp only [Bool.not_false, Bool.true_or, Bool.true_and] at h
    obtain ⟨ea, o', eb, pos, e1, h⟩ := mCmp_of h
    simp only [Bool.and_eq_true, decide_eq_true_eq, Bool.not_eq_true'] at h
    obtain ⟨⟨⟨h1, h2⟩, h3⟩, h4⟩ := h
    subst e1 h1
    exact c_own2c (M.own2 X W c.toCxy (.cmp o)) ((sound M a).e c h2) ((sound M b).e c h3) h4
  | .dcT kx vx tg it own => mkS M rfl fun {sc fa X W e} c h => by
    rw [er, kr] at h
    try simp only [Bool.not_false, Bool.true_or, Bool.true_and] at h
    obtain ⟨ke, ve, te, ie, s, pos, e1, h⟩ := mDc_of h
    simp only [Bool.and_eq_true] at h
    obtain ⟨⟨⟨⟨⟨⟨h1, h2⟩, h3⟩, h4⟩, h5⟩, h6⟩, h7⟩ := h
    subst e1
    have hvs : ∀ i ∈ tgIx tg, i ∈ own.map (·.2) := fun i hi => by
      have := List.all_eq_true.mp h2 i hi
      simpa using this
    have bo : BlkOk X.N X.env.scope s own := blkOk_by (by rw [c.xN, c.sc]; exact h1)
    have u1 : X.A.units + 1 < cLine := by have := c.room.un; omega
    refine c_ofF (PE.weak (pe_dcT u1 c.calm (by rw [c.xN]; exact c.nd) (soundI M it c (by rw [Bool.and_eq_true]; exact h4)) bo (fun s' H' C cl fp => ⟨tg_of (c.blk bo.kind s' H' C cl fp) h3, no_tests (G := G) (W := WF) (Γ := Γ), (sound M kx).e (c.blk bo.kind s' H' C cl fp) h6, (sound M vx).e (c.blk bo.kind s' H' C cl fp) h7⟩) (fold_of h5 _)) fun σ H Q q => ?_)
    exact dc_post M hvs q
  | .joined ps => mkS M rfl fun {sc fa X W e} c h => by
    rw [er, kr] at h
    try simp only [Bool.not_false, Bool.true_or, Bool.true_and] at h
    obtain ⟨x, y, r, pos, e1, h⟩ := mJoin_of h
    subst e1
    exact c_joined (soundEs M ps c h)
  | .fmt a => mkS M rfl fun {sc fa X W e} c h => by
    rw [er, kr] at h
    try simp only [Bool.not_false, Bool.true_or, Bool.true_and] at h
    obtain ⟨ea, pos, e1, h⟩ := mFmt_of h
    subst e1
    exact c_fmt M ((sound M a).e c h)
  | .chain o p a b z => mkS M rfl fun {sc fa X W e} c h => by
    rw [er, kr] at h
    try simp only [Bool.not_false, Bool.true_or, Bool.true_and] at h
    obtain ⟨ea, o', p', eb, ec, pos, e1, h⟩ := mChain_of h
    simp only [Bool.and_eq_true, decide_eq_true_eq, Bool.not_eq_true'] at h
    obtain ⟨⟨⟨⟨⟨h1, h2⟩, h3⟩, h4⟩, h5⟩, h6⟩ := h
    subst e1 h1 h2
    exact c_chain M c ((sound M a).e c h3) ((sound M b).e c h4) ((sound M z).e c h5) h6
  | .rev a => mkS M rfl fun {sc fa X W e} c h => by
    rw [er, kr] at h
    try simp only [Bool.not_false, Bool.true_or, Bool.true_and] at h
    obtain ⟨ea, j, p1, p2, p3, pos, e1, h⟩ := mRev_of h
    subst e1
    exact c_rev M c (c_brw ((sound M a).e c h) (ixv c h))
  | .callK f es ks vs => mkS M rfl fun {sc fa X W e} c h => by
    rw [er, kr] at h
    try simp only [Bool.not_false, Bool.true_or, Bool.true_and] at h
    obtain ⟨g, p1, kws, pos, e1, h⟩ := mCallK_of h
    simp only [Bool.and_eq_true, beq_iff_eq] at h
    obtain ⟨⟨⟨⟨h1, h2⟩, h3⟩, h4⟩, h5⟩ := h
    subst e1 h1
    cases es with
    | nil => exact c_callK M c h2 h3 (soundK M vs c h5)
    | cons _ _ => cases h4
  | .cmeth _ _ _ => mkS M rfl fun {sc fa X W e} c h => by rw [er, kr] at h <;> first | cases h | (intros; contradiction)
  | .cmethK _ _ _ _ => mkS M rfl fun {sc fa X W e} c h => by rw [er, kr] at h <;> first | cases h | (intros; contradiction)
  | .prop _ _ => mkS M rfl fun {sc fa X W e} c h => by rw [er, kr] at h <;> first | cases h | (intros; contradiction)
theorem soundK (M : GmOk G P wd base k Γ) : ∀ (ps : PXs) {sc : Scope} {fa : Bool} {X : Cx} {W : WX} {ks : List Str} {kws : List Keyword}, Cxx G P wd base k N sc fa X W → erK N sc ps ks kws = true → PKs X G W kws ks (ps.list.map (ev Γ))
  | .nil, sc, fa, X, W, ks, kws, c, h => by
    rw [erK] at h
    simp only [Bool.and_eq_true, List.isEmpty_iff] at h
    obtain ⟨h1, h2⟩ := h
    subst h1 h2
    exact .nil
  | .cons p ps, sc, fa, X, W, ks, kws, c, h => by
    cases ks with
    | nil => rw [erK] at h; cases h
    | cons x ks =>
      rw [erK] at h
      obtain ⟨y, e, kp, r, e1, h⟩ := mKw_of h
      simp only [Bool.and_eq_true, beq_iff_eq] at h
      obtain ⟨⟨h1, h2⟩, h3⟩ := h
      subst e1 h1
      exact .cons ((sound M p).e c h2) (soundK M ps c h3)
theorem soundEs (M : GmOk G P wd base k Γ) : ∀ (ps : PXs) {sc : Scope} {fa : Bool} {X : Cx} {W : WX} {es : List Expr}, Cxx G P wd base k N sc fa X W → ers N sc ps es = true → PEs X G W es (ps.list.map (ev Γ))
  | .nil, sc, fa, X, W, es, c, h => by
    cases es with
    | nil => exact .nil
    | cons e es => rw [ers] at h; cases h
  | .cons p ps, sc, fa, X, W, es, c, h => by
    cases es with
    | nil => rw [ers] at h; cases h
    | cons e es =>
      rw [ers] at h
      simp only [Bool.and_eq_true] at h
      exact .cons ((sound M p).e c h.1.2) h.1.1 (soundEs M ps c h.2)
theorem soundZ (M : GmOk G P wd base k Γ) : ∀ (ps : PXs) {sc : Scope} {fa : Bool} {X : Cx} {W : WX} {es : List Expr}, Cxx G P wd base k N sc fa X W → ers N sc ps es = true → PA X es (tDZ G W (evsB Γ ps)) ∧ es.all notStar = true
  | .nil, sc, fa, X, W, es, c, h => by
    cases es with
    | nil => exact ⟨pa_nilZ, rfl⟩
    | cons e es => rw [ers] at h; cases h
  | .cons p ps, sc, fa, X, W, es, c, h => by
    cases es with
    | nil => rw [ers] at h; cases h
    | cons e es =>
      rw [ers] at h
      simp only [Bool.and_eq_true] at h
      obtain ⟨q1, q2⟩ := soundZ M ps c h.2
      exact ⟨pa_consZ ((sound M p).e c h.1.2) (ixv c h.1.2) q1 h.1.1, by rw [List.all_cons, h.1.1, q2]; rfl⟩
theorem soundO (M : GmOk G P wd base k Γ) : ∀ (ps : PXs) {sc : Scope} {fa : Bool} {X : Cx} {W : WX} {o : Option Expr}, Cxx G P wd base k N sc fa X W → erO N sc ps o = true → PO X o (tDO G W (evO Γ ps))
  | .nil, sc, fa, X, W, o, c, h => by
    cases o with
    | none => exact o_nil
    | some e => rw [erO] at h; cases h
  | .cons p ps, sc, fa, X, W, o, c, h => by
    cases o with
    | none => rw [erO] at h; cases h
    | some e =>
      rw [erO.eq_def] at h
      simp only [Bool.and_eq_true] at h
      cases ps with
      | nil => exact o_one ((sound M p).e c h.1)
      | cons q ps => exact absurd h.2 Bool.false_ne_true
theorem soundTs (M : GmOk G P wd base k Γ) : ∀ (ps : PXs) {sc : Scope} {fa : Bool} {X : Cx} {W : WX} {es : List Expr}, Cxx G P wd base k N sc fa X W → erTs N sc ps es = true → PTs X es (tDT G W (evTs Γ ps))
  | .nil, sc, fa, X, W, es, c, h => by
    cases es with
    | cons e es => rw [erTs] at h; cases h
    | nil => exact ⟨fun pins s σ H Q I ⟨Bd, ρ, w, a, q⟩ => pts_nil.run pins s σ H Q I (by
        rw [evTs_nil] at q
        exact q H Stp.refl a.en (fun _ h => h) a.dk)⟩
  | .cons p ps, sc, fa, X, W, es, c, h => by
    cases es with
    | nil => rw [erTs.eq_def] at h; exact absurd h Bool.false_ne_true
    | cons e es =>
      cases es with
      | cons e2 es => rw [erTs.eq_def] at h; exact absurd h Bool.false_ne_true
      | nil =>
        rw [erTs.eq_def] at h
        simp only [Bool.and_eq_true] at h
        cases ps with
        | cons q ps => exact absurd h.2 Bool.false_ne_true
        | nil =>
          have e1 : evTs Γ (.cons p .nil) = evT Γ p := by funext ρ w; rw [evTs_one]
          rw [e1]
          exact pts_one ((sound M p).t c h.1)
theorem soundI (M : GmOk G P wd base k Γ) : ∀ (p : PIt) {sc : Scope} {fa : Bool} {X : Cx} {W : WX} {tg e : Expr}, Cxx G P wd base k N sc fa X W → (zipOk p tg && erI N sc p e) = true → PI X tg e (tDI G W (evI Γ p))
  | .val a, sc, fa, X, W, tg, e, c, h => by
    rw [Bool.and_eq_true] at h
    replace h := h.2
    rw [erI] at h
    exact i_val M c ((sound M a).e c h)
  | .range1 a, sc, fa, X, W, tg, e, c, h => by
    rw [Bool.and_eq_true] at h
    replace h := h.2
    rw [erI] at h
    obtain ⟨g, p1, xs, pos, e1, h⟩ := mCall_of h
    split at h
    · simp only [Bool.and_eq_true, beq_iff_eq] at h
      obtain ⟨⟨⟨h1, h2⟩, h3⟩, h4⟩ := h
      subst e1 h1
      exact i_range1 c M.range h2 ((sound M a).e c h4) h3
    · cases h
  | .range2 a b, sc, fa, X, W, tg, e, c, h => by
    rw [Bool.and_eq_true] at h
    replace h := h.2
    rw [erI] at h
    obtain ⟨g, p1, xs, pos, e1, h⟩ := mCall_of h
    split at h
    · simp only [Bool.and_eq_true, beq_iff_eq] at h
      obtain ⟨⟨⟨⟨⟨h1, h2⟩, h3⟩, h4⟩, h5⟩, h6⟩ := h
      subst e1 h1
      exact i_range2 c M.range h2 ((sound M a).e c h5) ((sound M b).e c h6) h3 h4
    · cases h
  | .zip2 a b, sc, fa, X, W, tg, e, c, h => by
    rw [Bool.and_eq_true] at h
    obtain ⟨hz, h⟩ := h
    rw [erI] at h
    obtain ⟨g, p1, xs, pos, e1, h⟩ := mCall_of h
    split at h
    · simp only [Bool.and_eq_true, beq_iff_eq] at h
      obtain ⟨⟨⟨⟨⟨h1, h2⟩, h3⟩, h4⟩, h5⟩, h6⟩ := h
      subst e1 h1
      cases tg <;> first | (exact absurd hz Bool.false_ne_true) | skip
      exact i_zip2 c M.zip h2 ((sound M a).e c h5) ((sound M b).e c h6) h3 h4
    · cases h
  | .zip3 _ _ _, sc, fa, X, W, tg, e, c, h => by
    rw [Bool.and_eq_true] at h
    replace h := h.2
    rw [erI] at h <;> first | cases h | (intros; contradiction)
  | .enum _, sc, fa, X, W, tg, e, c, h => by
    rw [Bool.and_eq_true] at h
    replace h := h.2
    rw [erI] at h <;> first | cases h | (intros; contradiction)
  | .enumK _ _, sc, fa, X, W, tg, e, c, h => by
    rw [Bool.and_eq_true] at h
    replace h := h.2
    rw [erI] at h <;> first | cases h | (intros; contradiction)
  | .items _, sc, fa, X, W, tg, e, c, h => by
    rw [Bool.and_eq_true] at h
    replace h := h.2
    rw [erI] at h <;> first | cases h | (intros; contradiction)
  | .values _, sc, fa, X, W, tg, e, c, h => by
    rw [Bool.and_eq_true] at h
    replace h := h.2
    rw [erI] at h <;> first | cases h | (intros; contradiction)
end
end
end DL
set_option maxRecDepth 100000
set_option maxHeartbeats 4000000
set_option linter.all false
namespace DL
open PySem PySem.Spec PyProof.Rows L2
/-! ### statements beside the text -/
def freshP (Γ : Gm) : PX → Bool
  | .bin .Add _ (.lst _) => true | .lst _ => true | .dnew _ => true | .lc .. => true | .b1 f _ => (Γ.bF f).isSome | .sset _ => true | .dcT .. => true | _ => false
def nAsg : Stmt → (Str → Nat → Expr → Bool) → Bool | .Assign [.Name y py] e p, k => k y py.line e | _, _ => false
def nAsgT : Stmt → (List Expr → Expr → Bool) → Bool | .Assign [.Tuple ts _ _] e _, k => k ts e | _, _ => false
def nSet : Stmt → (Str → Expr → Expr → Bool) → Bool | .Assign [.Subscript (.Name y _) ke _] e _, k => k y ke e | _, _ => false
def nSetF : Stmt → (Str → Str → Expr → Bool) → Bool | .Assign [.Attribute (.Name y _) f _] e _, k => k y f e | _, _ => false
def nPar : Stmt → (Str → Str → Bool → Expr → Expr → Bool) → Bool | .Assign [.Tuple [.Name x px, .Name y py] _ _] (.Tuple [a, b] _ _) _, k => k x y (px.line == py.line) a b | _, _ => false
def nEx : Stmt → (Expr → Bool) → Bool | .Expr e _, k => k e | _, _ => false
def nDoc : Stmt → Bool | .Expr (.Constant (.str _) _ _) _ => true | _ => false
def nRet : Stmt → (Option Expr → Bool) → Bool | .Return o _, k => k o | _, _ => false
def nIf : Stmt → (Expr → List Stmt → List Stmt → Bool) → Bool | .If c a b _, k => k c a b | _, _ => false
def nFor : Stmt → (Expr → Expr → List Stmt → Bool) → Bool | .For t i b [] _, k => k t i b | _, _ => false
def nPass : Stmt → Bool | .Pass _ => true | _ => false
def nBrk : Stmt → Bool | .Break _ => true | _ => false
def nCont : Stmt → Bool | .Continue _ => true | _ => false
section
variable {st : Stmt}
theorem nAsg_of {k} (h : nAsg st k = true) : ∃ y py e p, st = .Assign [.Name y py] e p ∧ k y py.line e = true := by
  unfold nAsg at h
  split at h
  · exact ⟨_, _, _, _, rfl, h⟩
  · cases h
theorem nAsgT_of {k} (h : nAsgT st k = true) : ∃ ts x py e p, st = .Assign [.Tuple ts x py] e p ∧ k ts e = true := by
  unfold nAsgT at h
  split at h
  · exact ⟨_, _, _, _, _, rfl, h⟩
  · cases h
theorem nSet_of {k} (h : nSet st k = true) : ∃ y py ke p1 e p, st = .Assign [.Subscript (.Name y py) ke p1] e p ∧ k y ke e = true := by
  unfold nSet at h
  split at h
  · exact ⟨_, _, _, _, _, _, rfl, h⟩
  · cases h
theorem nSetF_of {k} (h : nSetF st k = true) : ∃ y py f p1 e p, st = .Assign [.Attribute (.Name y py) f p1] e p ∧ k y f e = true := by
  unfold nSetF at h
  split at h
  · exact ⟨_, _, _, _, _, _, rfl, h⟩
  · cases h
theorem nPar_of {k} (h : nPar st k = true) : ∃ x px y py kt pt a b k2 pt2 p, st = .Assign [.Tuple [.Name x px, .Name y py] kt pt] (.Tuple [a, b] k2 pt2) p ∧ k x y (px.line == py.line) a b = true := by
  unfold nPar at h
  split at h
  · exact ⟨_, _, _, _, _, _, _, _, _, _, _, rfl, h⟩
  · cases h
theorem nEx_of {k} (h : nEx st k = true) : ∃ e p, st = .Expr e p ∧ k e = true := by cases st <;> first | exact ⟨_, _, rfl, h⟩ | cases h
theorem nDoc_of (h : nDoc st = true) : ∃ x j p p2, st = .Expr (.Constant (.str x) j p2) p := by
  unfold nDoc at h
  split at h
  · exact ⟨_, _, _, _, rfl⟩
  · cases h
theorem nRet_of {k} (h : nRet st k = true) : ∃ o p, st = .Return o p ∧ k o = true := by cases st <;> first | exact ⟨_, _, rfl, h⟩ | cases h
theorem nIf_of {k} (h : nIf st k = true) : ∃ c a b p, st = .If c a b p ∧ k c a b = true := by cases st <;> first | exact ⟨_, _, _, _, rfl, h⟩ | cases h
theorem nFor_of {k} (h : nFor st k = true) : ∃ t i b p, st = .For t i b [] p ∧ k t i b = true := by
  unfold nFor at h
  split at h
  · exact ⟨_, _, _, _, rfl, h⟩
  · cases h
theorem nPass_of (h : nPass st = true) : ∃ p, st = .Pass p := by cases st <;> first | exact ⟨_, rfl⟩ | cases h
theorem nBrk_of (h : nBrk st = true) : ∃ p, st = .Break p := by cases st <;> first | exact ⟨_, rfl⟩ | cases h
theorem nCont_of (h : nCont st = true) : ∃ p, st = .Continue p := by cases st <;> first | exact ⟨_, rfl⟩ | cases h
end
def isLc : PX → Bool | .lc .. => true | .dcT .. => true | _ => false
def isLc0 (sc : Scope) (x : Str) (l : Nat) : Expr → Bool
  | .ListComp _ _ s p => (l == p.line) && (sc.names.lookup x == some .local) && !(s.names.any fun (n, k) => n == x && (k == .local || k == .cell))
  | .DictComp _ _ _ s p => (l == p.line) && (sc.names.lookup x == some .local) && !(s.names.any fun (n, k) => n == x && (k == .local || k == .cell))
  | _ => false
def cellT (sc : Scope) : List Expr → Expr → Bool
  | [.Name x _, .Name y _], .Tuple [_, _] _ _ => (sc.names.lookup x == some .cell) || (sc.names.lookup y == some .cell)
  | _, _ => false
theorem swp_of {sc : Scope} {ts : List Expr} {e : Expr} {kk : _} {pt : Pos} {env : Env} (hsc : env.scope = sc) (h : (notTup e || cellT sc ts e) = true) : swappedStores [Expr.Tuple ts kk pt] e env = pure none := by
  rcases Bool.or_eq_true_iff.mp h with h | h
  · exact sw_none h
  · unfold cellT at h
    split at h
    · rw [← hsc] at h
      rcases Bool.or_eq_true_iff.mp h with h | h
      · exact sw_cell (.inl (by simpa using h))
      · exact sw_cell (.inr (by simpa using h))
    · cases h
theorem swaps_attr {e o : Expr} {f : Str} {p : Pos} (l : Nat) (env : Env) : swapsWith e (some (.Attribute o f p)) l env = pure false := by
  cases e <;> rfl
mutual
def erS (Γ : Gm) (fa : Bool) (N : List Str) (sc : Scope) : PY → Stmt → Bool
  | .asg x i p, s => nAsg s fun y l e => (x == y) && okI N x i && locB fa sc x && er N sc p e && (notComp e || (isLc p && isLc0 sc x l e))
  | .asgO x i p, s => nAsg s fun y l e => (x == y) && okI N x i && locB fa sc x && er N sc p e && freshP Γ p && (notComp e || (isLc p && isLc0 sc x l e))
  | .asgT xs l p, s => nAsgT s fun ts e => !l && erNames fa N sc xs ts && notComp e && (notTup e || cellT sc ts e) && er N sc p e
  | .setI x i k v, s => nSet s fun y ke e => (x == y) && okI N x i && visB sc x && plainN x && er N sc k ke && er N sc v e && notComp e && notSlice ke
  | .setF f p, s => nSetF s fun y f' e => (f == f') && okI N y 0 && visB sc y && plainN y && er N sc p e
  | .ex p, s => nEx s fun e => er N sc p e && notComp e
  | .doc, s => nDoc s
  | .ret p, s => nRet s fun o => match o with | some e => er N sc p e | none => false
  | .retN, s => nRet s fun o => o.isNone
  | .ifs c a b, s => nIf s fun ec ea eb => erT N sc c ec && erSs Γ fa N sc a ea && erSs Γ fa N sc b eb
  | .for_ tg it b, s => nFor s fun te ie be => erTg fa N sc tg te && (zipOk it te && erI N sc it ie) && notSet ie && erSs Γ fa N sc b be
  | .pass, s => nPass s
  | .brk, s => nBrk s
  | .cont, s => nCont s
  | .never, _ => true
  | .par2 x i y j a b, s => nPar s fun x' y' ln ea eb => (x == x') && (y == y') && okI N x i && okI N y j && !(i == j) && !(x == y) && (sc.names.lookup x == some .local) && (sc.names.lookup y == some .local) && ln && notStar ea && notStar eb && er N sc a ea && er N sc b eb && !([ea, eb].all (foldedForSure 8)) && !([ea, eb].all (constantsAlone 8))
  | _, _ => false
def erSs (Γ : Gm) (fa : Bool) (N : List Str) (sc : Scope) : PYs → List Stmt → Bool
  | .nil, ss => ss.isEmpty
  | .cons p ps, ss => match ss with
    | s :: ss => erS Γ fa N sc p s && erSs Γ fa N sc ps ss
    | [] => false
end
section
variable {G : GC} {P : Program} {wd : World} {base : Heap} {k : Nat} {N : List Str} {Γ : Gm}
theorem putF_keys (f : Str) (v : V) (d : D) : ∀ (us : List (Str × V)) (ds : List D), us.length = ds.length → (putF f v us).map (·.1) = (putF' f d (us.map (·.1)) ds).1
  | [], [], _ => rfl
  | (g, x) :: us, e :: ds, h => by
    rw [putF, List.map_cons, putF']
    by_cases hg : g = f
    · rw [if_pos hg, if_pos hg]
      rfl
    · rw [if_neg hg, if_neg hg]
      show g :: (putF f v us).map (·.1) = g :: (putF' f d (us.map (·.1)) ds).1
      rw [putF_keys f v d us ds (by simpa using h)]
  | [], _ :: _, h => by simp at h
  | _ :: _, [], h => by simp at h
theorem putF_vals {ok : Addr → Prop} {H : Hp} {f : Str} {v : V} {d : D} (hv : Dt G ok H d v) : ∀ (us : List (Str × V)) (ds : List D), DtL G ok H ds (us.map (·.2)) → DtL G ok H (putF' f d (us.map (·.1)) ds).2 ((putF f v us).map (·.2))
  | [], ds, h => by
    cases ds with
    | nil => exact .cons hv .nil
    | cons e ds => have := h.length; simp at this
  | (g, x) :: us, ds, h => by
    cases ds with
    | nil => have := h.length; simp at this
    | cons e ds =>
      obtain ⟨u, r, e1, e2, e3⟩ := h
      cases e1
      rw [putF, List.map_cons, putF']
      by_cases hg : g = f
      · rw [if_pos hg, if_pos hg]
        exact .cons hv e3
      · rw [if_neg hg, if_neg hg]
        exact .cons e2 (putF_vals hv us ds e3)
/-- self.f = e -/
theorem s_setF (M : GmOk G P wd base k Γ) {sc : Scope} {fa : Bool} {X : Cx} {W : WX} (c : Cxx G P wd base k N sc fa X W) {o e : Expr} {f : Str} {pe : PX} {p1 pos : Pos} (ho : PE X o (tVar 0)) (he : PE X e (tD G W (ev Γ pe))) :
    PS X (.Assign [.Attribute o f p1] e pos) (tDS G W (exS Γ (.setF f pe))) := by
  refine PS.weak (ps_fld ho he (swaps_attr _ _)) fun E σ H ⟨Bd, ρ, w, a, q⟩ => ?_
  rw [exS_setF] at q
  refine ⟨Bd, ρ, w, a, PostS.bind a q fun d ρ1 w1 v H1 m r q1 => ?_⟩
  unfold setFD at q1
  cases e1 : ρ1[(0 : Nat)]? with
  | none => simp only [e1, RS.ofE] at q1; exact q1.elim
  | some sl =>
    cases sl with
    | emp => simp only [e1, RS.ofE] at q1; exact q1.elim
    | dat d => simp only [e1, RS.ofE] at q1; exact q1.elim
    | own d0 =>
      cases d0 with
      | ins cn ns vs =>
        simp only [e1] at q1
        by_cases hc : Γ.fo cn f = true ∧ ns.length < 900
        · rw [if_pos hc] at q1
          simp only [RS.ofE] at q1
          obtain ⟨x, hx, ad, e2, C, dx, us, h1, h2, h3, h4, hsx⟩ := m.at_.en.sl.get e1
          cases e2
          have ma : ad ∈ owns ρ1 σ := mem_owns e1 hx
          obtain ⟨cl, na⟩ := M.fo cn f hc.1 C h1
          have nb := m.at_.en.nb ad ma
          have hl : us.length = vs.length := by rw [h4.length, List.length_map]
          obtain ⟨k1, k2⟩ : (∀ b v', okA Bd (owns ρ1 σ) b → H1 b = some v' → okA Bd (owns ρ1 σ) b ∧ upd H1 ad (.ins C dx (putF f v us)) b = some v') ∧ ∀ b xs, H1 b = some (.tup xs) → upd H1 ad (.ins C dx (putF f v us)) b = some (.tup xs) := by
            refine ⟨fun b v' k e => ⟨k, ?_⟩, fun b xs e => ?_⟩
            · rw [upd_ne (fun z => k.2 (by rw [z]; exact ma))]
              exact e
            · rw [upd_ne (fun z => by subst z; rw [h2] at e; cases e)]
              exact e
          have ow : OwD G (okA Bd (owns ρ1 σ)) (upd H1 ad (.ins C dx (putF f v us))) (.ins cn (putF' f d ns vs).1 (putF' f d ns vs).2) ad := by
            refine ⟨C, dx, putF f v us, h1, upd_same, ?_, ?_, hsx⟩
            · rw [← h3]
              exact putF_keys f v d us vs hl
            · rw [← h3]
              exact (putF_vals r us vs h4).mono k1 k2
          obtain ⟨c1, c2⟩ := m.at_.en.change e1 hx ow
          refine ⟨.ref ad, hx, ad, C, dx, us, rfl, h2, by rw [c.K]; exact cl, by rw [c.K]; exact na, ?_, q1 σ _ (Stp.mut ma h2 (fun _ => by intro z; cases z)) c1 (by rw [c2]; exact fun _ h => .inl h) ⟨?_, ?_⟩⟩
          · have := hc.2
            rw [← h3, List.length_map] at this
            omega
          · rw [upd_ne (fun z => nb (by rw [← z]; exact m.at_.bd.dk))]
            exact m.at_.dk.dk
          · rw [upd_ne (fun z => nb (by rw [← z]; exact m.at_.bd.gl))]
            exact m.at_.dk.gl
        · rw [if_neg hc] at q1
          exact q1.elim
      | _ => simp only [e1, RS.ofE] at q1; exact q1.elim
/-- x, y = a, b -/
theorem par_stores {X : Cx} {x y : Str} {px py pt pt2 : Pos} {kt k2 : _} {a b : Expr} (kf : X.env.scope.kind = .function) (hx : X.env.scope.names.lookup x = some .local) (hy : X.env.scope.names.lookup y = some .local) (hxy : (x == y) = false) (hl : (px.line == py.line) = true) (sa : notStar a = true) (sb : notStar b = true)
    (h1 : [a, b].all (foldedForSure 8) = false) (h2 : [a, b].all (constantsAlone 8) = false) : swappedStores [.Tuple [.Name x px, .Name y py] kt pt] (.Tuple [a, b] k2 pt2) X.env = pure (some [x, y]) := by
  have hb : X.env.blockKind = .function := by
    unfold Env.blockKind
    rw [kf]
    rfl
  have hs : ([a, b].any fun | .Starred .. => true | _ => false) = false := by
    cases a <;> first | (exact absurd sa Bool.false_ne_true) | skip
    all_goals cases b <;> first | (exact absurd sb Bool.false_ne_true) | rfl
  have hl' : px.line = py.line := beq_iff_eq.mp hl
  have hyx : (y == x) = false := by
    have := beq_eq_false_iff_ne.mp hxy
    exact beq_eq_false_iff_ne.mpr (Ne.symm this)
  have n2 : ([x, y] : List Str).eraseDups = [x, y] := by
    simp [List.eraseDups_cons, hyx]
  unfold swappedStores Env.kindOf
  simp only [List.length_cons, List.length_nil, hb, List.head?_cons, Option.map_some, Option.getD_some, Expr.pos, List.filterMap_cons, hx, hy, hl', beq_self_eq_true, Bool.and_self, if_true, List.filterMap_nil, n2, h1, h2]
  refine (if_neg (by decide)).trans ?_
  refine (if_neg (fun z => Bool.false_ne_true (hs.symm.trans z))).trans ?_
  rfl
theorem s_par2 (M : GmOk G P wd base k Γ) {sc : Scope} {fa : Bool} {X : Cx} {W : WX} (c : Cxx G P wd base k N sc fa X W) {x y : Str} {i j : Nat} {px py pt pt2 pos : Pos} {kt k2 : _} {a b : Expr} {pa pb : PX} (hi : N[i]? = some x) (hj : N[j]? = some y) (hij : i ≠ j) (hx : sc.names.lookup x = some .local) (hy : sc.names.lookup y = some .local)
    (hw : swappedStores [.Tuple [.Name x px, .Name y py] kt pt] (.Tuple [a, b] k2 pt2) X.env = pure (some [x, y])) (sa : notStar a = true) (sb : notStar b = true) (ha : PE X a (tD G W (ev Γ pa))) (hb : PE X b (tD G W (ev Γ pb))) :
    PS X (.Assign [.Tuple [.Name x px, .Name y py] kt pt] (.Tuple [a, b] k2 pt2) pos) (tDS G W (exS Γ (.par2 x i y j pa pb))) := by
  have hp : PA X [a, b] (tDL G W (evs Γ (.cons pa (.cons pb .nil)))) := pa_consD ha (pa_consD hb pa_nilD sb) sa
  refine PS.weak (ps_par (i := i) (j := j) c.calm (by rw [c.xN]; exact c.nd) (by rw [c.xN]; exact hi) (by rw [c.xN]; exact hj) hij (by rw [c.sc]; exact hx) (by rw [c.sc]; exact hy) hp hw) fun E σ H ⟨Bd, ρ, w, a0, q⟩ => ?_
  rw [exS_par2] at q
  have e2 : ((ev Γ pa ρ w).bindS fun x ρ w => (ev Γ pb ρ w).bindS fun y ρ w => RS.nx ((ρ.set i (.dat x)).set j (.dat y)) w) = (evs Γ (.cons pa (.cons pb .nil)) ρ w).bindS fun ds ρ w => match ds with
      | [x, y] => RS.nx ((ρ.set i (.dat x)).set j (.dat y)) w
      | _ => .stuck := by
    rw [evs_cons]
    cases ev Γ pa ρ w with
    | stuck => rfl
    | exc _ _ _ => rfl
    | ok d ρ1 w1 =>
      simp only [R.bind, R.bindS]
      rw [evs_cons]
      cases ev Γ pb ρ1 w1 with
      | stuck => rfl
      | exc _ _ _ => rfl
      | ok d ρ1 w1 =>
        simp only [R.bind, R.bindS, evs_nil]
  rw [e2] at q
  refine ⟨Bd, ρ, w, a0, PostS.bindL a0 q fun ds ρ1 w1 vs H1 m r q1 => ?_⟩
  match ds, r, q1 with
  | [d, e], r, q1 =>
    obtain ⟨v, r', e3, r1, r2⟩ := r
    subst e3
    obtain ⟨u, r'', e4, r3, r4⟩ := r2
    subst e4
    rw [show r'' = [] from r4]
    refine ⟨v, u, rfl, ?_⟩
    have s1 := owns_set_sub (s := .dat d) (fun _ => by intro z; cases z) (ρ := ρ1) (σ := σ) i (some v)
    have s2 := owns_set_sub (s := .dat e) (fun _ => by intro z; cases z) (ρ := ρ1.set i (.dat d)) (σ := σ.set i (some v)) j (some u)
    have en1 := m.at_.en.setDat i r1
    have r5 : Dt G (okA Bd (owns (ρ1.set i (.dat d)) (σ.set i (some v)))) H1 e u := r3.mono (fun a o k q => ⟨okA_sub (fun b hb => s1.subset hb) k, q⟩) fun _ _ q => q
    exact q1 _ H1 Stp.refl (en1.setDat j r5) (fun b hb => .inl (s1.subset (s2.subset hb))) m.at_.dk
  | [], r, q1 => exact q1.elim
  | [d], r, q1 => exact q1.elim
  | d :: e :: f :: g, r, q1 => exact q1.elim
/-- a new object's expression -/
theorem soundF (M : GmOk G P wd base k Γ) {p : PX} {sc : Scope} {fa : Bool} {X : Cx} {W : WX} {e : Expr} (c : Cxx G P wd base k N sc fa X W) (h : er N sc p e = true) (hf : freshP Γ p = true) : PE X e (tDF G W (ev Γ p)) := by
  cases p <;> first | (exact absurd hf Bool.false_ne_true) | skip
  · rename_i o pa pb
    cases o <;> first | (exact absurd hf Bool.false_ne_true) | skip
    cases pb <;> first | (exact absurd hf Bool.false_ne_true) | skip
    rename_i es
    rw [er, kr] at h
    try simp only [Bool.not_false, Bool.true_or, Bool.true_and] at h
    obtain ⟨ea, o', eb, pos, e1, h⟩ := mBin_of h
    simp only [Bool.and_eq_true, decide_eq_true_eq] at h
    obtain ⟨⟨h1, h2⟩, h3⟩ := h
    subst e1 h1
    exact c_catF M (c_opd ((sound M pa).e c h2) (ixv c h2)) (c_imp ((sound M (.lst es)).e c h3))
  · rw [er, kr] at h
    try simp only [Bool.not_false, Bool.true_or, Bool.true_and] at h
    obtain ⟨xs, pos, e1, h⟩ := mList_of h
    subst e1
    have q := pa_of (soundEs M _ c h)
    rw [← evs_seq] at q
    exact c_lstF q
  · rw [er, kr] at h
    try simp only [Bool.not_false, Bool.true_or, Bool.true_and] at h
    obtain ⟨pos, e1⟩ := mDict0_of h
    subst e1
    exact c_dnew _
  · rename_i a
    rw [er, kr] at h
    try simp only [Bool.not_false, Bool.true_or, Bool.true_and] at h
    obtain ⟨g, p1, xs, pos, e1, h⟩ := mCall_of h
    split at h
    · rename_i e0
      simp only [Bool.and_eq_true, beq_iff_eq] at h
      obtain ⟨⟨h1, h2⟩, h3⟩ := h
      obtain ⟨g2, p2, ys, pos2, e2, h3⟩ := mCall_of h3
      split at h3
      · simp only [Bool.and_eq_true, beq_iff_eq] at h3
        obtain ⟨⟨⟨⟨h4, h5⟩, h6⟩, h7⟩, h8⟩ := h3
        subst e1 e2 h1 h4
        rw [ev_sset]
        cases hF : Γ.sset with
        | none => exact ⟨fun pins s σ H Q I ⟨Bd, ρ, w, a, q⟩ => q.elim⟩
        | some F => exact c_sset M c h5 h6 hF (c_brw ((sound M a).e c h8) (ixv c h8)) h7
      · cases h3
    · cases h
  · rename_i f a
    rw [er, kr] at h
    try simp only [Bool.not_false, Bool.true_or, Bool.true_and] at h
    obtain ⟨g, p1, xs, pos, e1, h⟩ := mCall_of h
    split at h
    · simp only [Bool.and_eq_true, beq_iff_eq] at h
      obtain ⟨⟨⟨⟨h1, h2⟩, h3⟩, h4⟩, h5⟩ := h
      subst e1 h1
      have hb := c_brw ((sound M a).e c h5) (ixv c h5)
      rw [ev_b1]
      unfold b1D
      have hf' : (Γ.bF f).isSome = true := hf
      cases hF : Γ.bF f with
      | some F => exact c_bF M c h2 h3 hF hb h4
      | none => rw [hF] at hf'; cases hf'
    · cases h
  · rename_i elt tg it ifs own
    rw [er, kr] at h
    try simp only [Bool.not_false, Bool.true_or, Bool.true_and] at h
    obtain ⟨ee, te, ie, fe, s, pos, e1, h⟩ := mLc_of h
    simp only [Bool.and_eq_true] at h
    obtain ⟨⟨⟨⟨⟨⟨h1, h2⟩, h3⟩, h4⟩, h5⟩, h6⟩, h7⟩ := h
    subst e1
    have hvs : ∀ i ∈ tgIx tg, i ∈ own.map (·.2) := fun i hi => by
      have := List.all_eq_true.mp h2 i hi
      simpa using this
    have bo : BlkOk X.N X.env.scope s own := blkOk_by (by rw [c.xN, c.sc]; exact h1)
    refine PE.weak (pe_lc c.calm (by rw [c.xN]; exact c.nd) (soundI M it c (by rw [Bool.and_eq_true]; exact h4)) bo (fun s' H' C cl fp => tg_of (c.blk bo.kind s' H' C cl fp) h3) (fun s' H' C cl fp => soundTs M ifs (c.blk bo.kind s' H' C cl fp) h6) (fun s' H' C cl fp => (sound M elt).e (c.blk bo.kind s' H' C cl fp) h7) (fold_of h5 _)) fun σ H Q q => ?_
    exact lc_post hvs q
  · rename_i kx vx tg it own
    rw [er, kr] at h
    try simp only [Bool.not_false, Bool.true_or, Bool.true_and] at h
    obtain ⟨ke, ve, te, ie, s, pos, e1, h⟩ := mDc_of h
    simp only [Bool.and_eq_true] at h
    obtain ⟨⟨⟨⟨⟨⟨h1, h2⟩, h3⟩, h4⟩, h5⟩, h6⟩, h7⟩ := h
    subst e1
    have hvs : ∀ i ∈ tgIx tg, i ∈ own.map (·.2) := fun i hi => by
      have := List.all_eq_true.mp h2 i hi
      simpa using this
    have bo : BlkOk X.N X.env.scope s own := blkOk_by (by rw [c.xN, c.sc]; exact h1)
    have u1 : X.A.units + 1 < cLine := by have := c.room.un; omega
    refine PE.weak (pe_dcT u1 c.calm (by rw [c.xN]; exact c.nd) (soundI M it c (by rw [Bool.and_eq_true]; exact h4)) bo (fun s' H' C cl fp => ⟨tg_of (c.blk bo.kind s' H' C cl fp) h3, no_tests (G := G) (W := WF) (Γ := Γ), (sound M kx).e (c.blk bo.kind s' H' C cl fp) h6, (sound M vx).e (c.blk bo.kind s' H' C cl fp) h7⟩) (fold_of h5 _)) fun σ H Q q => ?_
    exact dc_post M hvs q
/-- y = [.. for ..] -/
theorem lc_stored (M : GmOk G P wd base k Γ) {p : PX} {sc : Scope} {fa : Bool} {X : Cx} {W : WX} {e : Expr} {x : Str} {i : Nat} {py pos : Pos} (c : Cxx G P wd base k N sc fa X W) (h : er N sc p e = true) (hi : N[i]? = some x) (hl : isLc p = true) (h0 : isLc0 sc x py.line e = true) :
    PS X (.Assign [.Name x py] e pos) (tAsg (tDF G W (ev Γ p)) (gName i)) := by
  cases p <;> first | (exact absurd hl Bool.false_ne_true) | skip
  · rename_i elt tg it ifs own
    rw [er, kr] at h
    try simp only [Bool.not_false, Bool.true_or, Bool.true_and] at h
    obtain ⟨ee, te, ie, fe, s, pos', e1, h⟩ := mLc_of h
    simp only [Bool.and_eq_true] at h
    obtain ⟨⟨⟨⟨⟨⟨h1, h2⟩, h3⟩, h4⟩, h5⟩, h6⟩, h7⟩ := h
    subst e1
    simp only [isLc0, Bool.and_eq_true, Bool.not_eq_true'] at h0
    obtain ⟨⟨l0, l1⟩, l2⟩ := h0
    have l1 : sc.names.lookup x = some .local := by simpa using l1
    have hvs : ∀ i ∈ tgIx tg, i ∈ own.map (·.2) := fun i hi => by
      have := List.all_eq_true.mp h2 i hi
      simpa using this
    have bo : BlkOk X.N X.env.scope s own := blkOk_by (by rw [c.xN, c.sc]; exact h1)
    have kf : X.env.scope.kind = .function := c.kf
    refine PS.weak (ps_setLc c.calm (by rw [c.xN]; exact c.nd) (by rw [c.xN]; exact hi) (by rw [c.sc]; exact l1) (sw_true kf (by rw [c.sc]; exact l1) l0 l2) (soundI M it c (by rw [Bool.and_eq_true]; exact h4)) bo (fun s' H' C cl fp => tg_of (c.blk bo.kind s' H' C cl fp) h3) (fun s' H' C cl fp => soundTs M ifs (c.blk bo.kind s' H' C cl fp) h6) (fun s' H' C cl fp => (sound M elt).e (c.blk bo.kind s' H' C cl fp) h7) (fold_of h5 _)) fun E σ H q => ?_
    exact lc_post hvs q
  · rename_i kx vx tg it own
    rw [er, kr] at h
    try simp only [Bool.not_false, Bool.true_or, Bool.true_and] at h
    obtain ⟨ke, ve, te, ie, s, pos', e1, h⟩ := mDc_of h
    simp only [Bool.and_eq_true] at h
    obtain ⟨⟨⟨⟨⟨⟨h1, h2⟩, h3⟩, h4⟩, h5⟩, h6⟩, h7⟩ := h
    subst e1
    simp only [isLc0, Bool.and_eq_true, Bool.not_eq_true'] at h0
    obtain ⟨⟨l0, l1⟩, l2⟩ := h0
    have l1 : sc.names.lookup x = some .local := by simpa using l1
    have hvs : ∀ i ∈ tgIx tg, i ∈ own.map (·.2) := fun i hi => by
      have := List.all_eq_true.mp h2 i hi
      simpa using this
    have bo : BlkOk X.N X.env.scope s own := blkOk_by (by rw [c.xN, c.sc]; exact h1)
    have kf : X.env.scope.kind = .function := c.kf
    have u1 : X.A.units + 1 < cLine := by have := c.room.un; omega
    refine PS.weak (ps_dcT u1 c.calm (by rw [c.xN]; exact c.nd) (by rw [c.xN]; exact hi) (by rw [c.sc]; exact l1) (swD_true kf (by rw [c.sc]; exact l1) l0 l2) (soundI M it c (by rw [Bool.and_eq_true]; exact h4)) bo (fun s' H' C cl fp => ⟨tg_of (c.blk bo.kind s' H' C cl fp) h3, no_tests (G := G) (W := WF) (Γ := Γ), (sound M kx).e (c.blk bo.kind s' H' C cl fp) h6, (sound M vx).e (c.blk bo.kind s' H' C cl fp) h7⟩) (fold_of h5 _)) fun E σ H q => ?_
    exact dc_post M hvs q
mutual
theorem soundS (M : GmOk G P wd base k Γ) : ∀ (p : PY) {sc : Scope} {fa : Bool} {X : Cx} {W : WX} {st : Stmt}, Cxx G P wd base k N sc fa X W → erS Γ fa N sc p st = true → PS X st (tDS G W (exS Γ p))
  | .asg x i p, sc, fa, X, W, st, c, h => by
    rw [erS] at h
    obtain ⟨y, py, e, pos, e1, h⟩ := nAsg_of h
    simp only [Bool.and_eq_true, beq_iff_eq] at h
    obtain ⟨⟨⟨⟨h1, h2⟩, h3⟩, h4⟩, h5⟩ := h
    subst e1 h1
    cases hn : notComp e with
    | true => exact s_asg c (okI_of h2) h3 ((sound M p).e c h4) hn
    | false =>
      rw [hn] at h5
      simp only [Bool.false_or, Bool.and_eq_true] at h5
      exact s_asgC (PS.weak (lc_stored M c h4 (okI_of h2) h5.1 h5.2) fun E σ H ⟨Bd, ρ, w, a, q⟩ => ⟨Bd, ρ, w, a, PostE.ofF a q⟩)
  | .asgO x i p, sc, fa, X, W, st, c, h => by
    rw [erS] at h
    obtain ⟨y, py, e, pos, e1, h⟩ := nAsg_of h
    simp only [Bool.and_eq_true, beq_iff_eq] at h
    obtain ⟨⟨⟨⟨⟨h1, h2⟩, h3⟩, h4⟩, h6⟩, h5⟩ := h
    subst e1 h1
    cases hn : notComp e with
    | true => exact s_asgO c (okI_of h2) h3 (soundF M c h4 h6) hn
    | false =>
      rw [hn] at h5
      simp only [Bool.false_or, Bool.and_eq_true] at h5
      exact PS.weak (lc_stored M c h4 (okI_of h2) h5.1 h5.2) fun E σ H q => asgO_post q
  | .asgT xs l p, sc, fa, X, W, st, c, h => by
    rw [erS] at h
    obtain ⟨ts, x1, py, e, pos, e1, h⟩ := nAsgT_of h
    simp only [Bool.and_eq_true, Bool.not_eq_true'] at h
    obtain ⟨⟨⟨⟨h1, h2⟩, h3⟩, h4⟩, h5⟩ := h
    subst e1 h1
    obtain ⟨q1, q2, q3⟩ := names_of h2
    exact s_asgT c (g_names c q1 q3) q1 q2 ((sound M p).e c h5) h3 (swp_of c.sc h4)
  | .setI x i k2 v, sc, fa, X, W, st, c, h => by
    rw [erS] at h
    obtain ⟨y, py, ke, p1, e, pos, e1, h⟩ := nSet_of h
    simp only [Bool.and_eq_true, beq_iff_eq] at h
    obtain ⟨⟨⟨⟨⟨⟨⟨h1, h2⟩, h3⟩, h4⟩, h5⟩, h6⟩, h7⟩, h8⟩ := h
    subst e1 h1
    have q := M.set X W c.toCxy _ ke e p1 pos i (ev Γ k2) (ev Γ v) Γ rfl (c_tvar (pos := py) c (okI_of h2) h3 h4) ((sound M k2).e c h5) ((sound M v).e c h6) h7 h8
    have e2 : exS Γ (.setI x i k2 v) = fun ρ w => (ev Γ v ρ w).bindS fun y ρ w => setT Γ i (ev Γ k2) y ρ w := by
      funext ρ w
      rw [exS_setI]
    rw [e2]
    exact q
  | .setF f p, sc, fa, X, W, st, c, h => by
    rw [erS] at h
    obtain ⟨y, py, f', p1, e, pos, e1, h⟩ := nSetF_of h
    simp only [Bool.and_eq_true, beq_iff_eq] at h
    obtain ⟨⟨⟨⟨h1, h2⟩, h3⟩, h4⟩, h5⟩ := h
    subst e1 h1
    exact s_setF M c (c_tvar (pos := py) c (okI_of h2) h3 h4) ((sound M p).e c h5)
  | .ex p, sc, fa, X, W, st, c, h => by
    rw [erS] at h
    obtain ⟨e, pos, e1, hz⟩ := nEx_of h
    simp only [Bool.and_eq_true] at hz
    subst e1
    exact s_ex ((sound M p).e c hz.1) hz.2
  | .doc, sc, fa, X, W, st, c, h => by
    rw [erS] at h
    obtain ⟨x, j, p, p2, e1⟩ := nDoc_of h
    subst e1
    exact s_doc
  | .ret p, sc, fa, X, W, st, c, h => by
    rw [erS] at h
    obtain ⟨o, pos, e1, h⟩ := nRet_of h
    subst e1
    cases o with
    | none => cases h
    | some e => exact s_ret ((sound M p).e c h)
  | .retN, sc, fa, X, W, st, c, h => by
    rw [erS] at h
    obtain ⟨o, pos, e1, h⟩ := nRet_of h
    subst e1
    cases o with
    | none => exact s_retN
    | some e => cases h
  | .ifs t a b, sc, fa, X, W, st, c, h => by
    rw [erS] at h
    obtain ⟨ec, ea, eb, pos, e1, h⟩ := nIf_of h
    simp only [Bool.and_eq_true] at h
    obtain ⟨⟨h1, h2⟩, h3⟩ := h
    subst e1
    exact s_ifs ((sound M t).t c h1) (soundSs M a c h2) (soundSs M b c h3)
  | .for_ tg it b, sc, fa, X, W, st, c, h => by
    rw [erS] at h
    obtain ⟨te, ie, be, pos, e1, h⟩ := nFor_of h
    simp only [Bool.and_eq_true] at h
    obtain ⟨⟨⟨h1, h2⟩, h3⟩, h4⟩ := h
    subst e1
    exact s_for c (soundI M it c (by rw [Bool.and_eq_true]; exact h2)) (tg_of c h1) (soundSs M b c h4) h3
  | .pass, sc, fa, X, W, st, c, h => by
    rw [erS] at h
    obtain ⟨p, e1⟩ := nPass_of h
    subst e1
    exact s_pass
  | .brk, sc, fa, X, W, st, c, h => by
    rw [erS] at h
    obtain ⟨p, e1⟩ := nBrk_of h
    subst e1
    exact s_brk
  | .cont, sc, fa, X, W, st, c, h => by
    rw [erS] at h
    obtain ⟨p, e1⟩ := nCont_of h
    subst e1
    exact s_cont
  | .never, sc, fa, X, W, st, c, h => s_never
  | .par2 x i y j pa pb, sc, fa, X, W, st, c, h => by
    rw [erS] at h
    obtain ⟨x', px, y', py, kt, pt, ea, eb, k2, pt2, pos, e1, h⟩ := nPar_of h
    simp only [Bool.and_eq_true, beq_iff_eq, Bool.not_eq_true', beq_eq_false_iff_ne] at h
    obtain ⟨⟨⟨⟨⟨⟨⟨⟨⟨⟨⟨⟨⟨⟨h1, h2⟩, h3⟩, h4⟩, h5⟩, h6⟩, h7⟩, h8⟩, h9⟩, ha⟩, hb⟩, hc⟩, hd⟩, he⟩, hf⟩ := h
    subst e1 h1 h2
    exact s_par2 M c (okI_of h3) (okI_of h4) h5 h7 h8 (par_stores c.kf (by rw [c.sc]; exact h7) (by rw [c.sc]; exact h8) (beq_eq_false_iff_ne.mpr h6) (beq_iff_eq.mpr h9) ha hb he hf) ha hb ((sound M pa).e c hc) ((sound M pb).e c hd)
  | .par2O _ _ _ _ _ _, sc, fa, X, W, st, c, h => by rw [erS] at h <;> first | cases h | (intros; contradiction)
  | .raise_ _ _, sc, fa, X, W, st, c, h => by rw [erS] at h <;> first | cases h | (intros; contradiction)
theorem soundSs (M : GmOk G P wd base k Γ) : ∀ (ps : PYs) {sc : Scope} {fa : Bool} {X : Cx} {W : WX} {ss : List Stmt}, Cxx G P wd base k N sc fa X W → erSs Γ fa N sc ps ss = true → PSs X ss (tDS G W (exSs Γ ps))
  | .nil, sc, fa, X, W, ss, c, h => by
    cases ss with
    | nil => exact ss_nil
    | cons s ss => rw [erSs] at h; cases h
  | .cons p ps, sc, fa, X, W, ss, c, h => by
    cases ss with
    | nil => rw [erSs] at h; cases h
    | cons s ss =>
      rw [erSs] at h
      simp only [Bool.and_eq_true] at h
      exact ss_cons (soundS M p c h.1) (soundSs M ps c h.2)
end
/-! ### a def by its body -/
theorem start_ok {ds : List D} {vs : List V} {Bd : Addr → Prop} {H : Hp} (n : Nat) (hl : ds.length ≤ n) (dl : DtL G (fun a => ¬ Bd a) H ds vs) (hN : N.length = n) : EnD G Bd H (ds.map .dat ++ List.replicate (n - ds.length) .emp) (start N vs) := by
  have noown : ∀ (es : List D) (m : Nat) (i : Nat) (d : D), (es.map Sl.dat ++ List.replicate m Sl.emp)[i]? ≠ some (Sl.own d) := by
    intro es
    induction es with
    | nil =>
      intro m i d h
      simp only [List.map_nil, List.nil_append, List.getElem?_replicate] at h
      split at h <;> cases h
    | cons e es ih =>
      intro m i d h
      cases i with
      | zero => cases h
      | succ i => exact ih m i d (by simpa using h)
  have no : ∀ σ, owns (ds.map .dat ++ List.replicate (n - ds.length) .emp) σ = [] := fun σ => by
    cases e : owns (ds.map .dat ++ List.replicate (n - ds.length) .emp) σ with
    | nil => rfl
    | cons b r =>
      have hb : b ∈ owns (ds.map Sl.dat ++ List.replicate (n - ds.length) Sl.emp) σ := by rw [e]; exact List.mem_cons_self
      obtain ⟨i, d, h1, _⟩ := owns_iff.mp hb
      exact absurd h1 (noown ds _ i d)
  refine ⟨?_, by rw [no]; exact List.nodup_nil, fun a ha => by rw [no] at ha; simp at ha⟩
  rw [no]
  have hv := dl.length
  refine EnDs.mk ?_ fun i s o h1 h2 => ?_
  · unfold L2.start
    rw [List.length_append, List.length_append, List.length_map, List.length_map, List.length_replicate, List.length_replicate, hN, hv]
  · unfold L2.start at h2
    by_cases hi : i < ds.length
    · rw [List.getElem?_append_left (by rw [List.length_map]; exact hi), List.getElem?_map] at h1
      rw [List.getElem?_append_left (by rw [List.length_map, ← hv]; exact hi), List.getElem?_map] at h2
      cases e1 : vs[i]? with
      | none => rw [e1] at h2; cases h2
      | some v =>
        obtain ⟨d, e2, e3⟩ := dl.get e1
        rw [e1] at h2
        rw [e2] at h1
        cases h1
        cases h2
        exact ⟨v, rfl, e3.mono (fun a o k e => ⟨⟨k, by simp⟩, e⟩) fun _ _ e => e⟩
    · rw [List.getElem?_append_right (by rw [List.length_map]; omega), List.getElem?_replicate] at h1
      split at h1
      · cases h1
        trivial
      · cases h1
theorem fnD_of {f : Addr} {name qual : Str} {params : Arguments} {body : List Stmt} {scope : Scope} {dV kV doc pm cdv ct oc : Value} {an od : Option Addr} {osl : Array (Option Value)} {ps : List Str} {pb : PYs}
    (lk : G.K.lookup f = some ⟨oc, od, .func (PySem.W.fnOf name qual params body scope dV kV doc pm an cdv ct), osl⟩) (hcd : PySem.W.codeIn G.K cdv qual = true) (S : FnScope N ps scope) (M : GmOk G P wd base k Γ) (he : erSs Γ true N scope pb body = true) :
    FnD G P wd base (k + 1) f (PySem.W.fnOf name qual params body scope dV kV doc pm an cdv ct) ps (runB Γ pb ps.length N.length) := by
  have plen : ps.length ≤ N.length := by
    have z := congrArg List.length S.pre
    rw [List.length_take] at z
    omega
  refine ⟨fun ds w hne => ?_, fun A outer s H args us vs Q E Bd ds w hg hr e0 hb r hbd hdk dl hp => ?_⟩
  · unfold runB at hne
    by_cases hl : ds.length = ps.length
    · exact hl
    · exact absurd (if_neg hl) hne
  have hlen : ds.length = ps.length := by
    unfold runB at hp
    by_cases hl : ds.length = ps.length
    · exact hl
    · rw [if_neg hl] at hp
      exact hp.elim
  have hvl : vs.length = ps.length := by rw [← dl.length, hlen]
  have KX : G.K.In s.heap := e0.mod.kin.keeps fun b o e => (e0.bs b o e).1
  have lim : s.heap.NoLimit := e0.mod.nolimit.keeps fun b o e => (e0.bs b o e).1
  have kinds : ∀ y ∈ ps.zip us, scope.names.lookup y.1 = some .local ∨ (scope.names.lookup y.1 = some .cell ∧ ((cellsFrom (s.heap.objs.size + 1) scope.names []).lookup y.1).isSome = true) := by
    rintro ⟨n, v⟩ hy
    rcases S.par n (List.of_mem_zip hy).1 with z | z
    · exact .inl z
    · exact .inr ⟨z, PySem.W.cellsFrom_some _ _ _ (.inl z)⟩
  refine codeAny_call_function hr.depth (KX _ _ lk) rfl S.co S.gen rfl (PySem.W.codeRec_of KX hcd) (hb _ _ _ _ ?_)
  refine wpAny_newFunctionEnv_cells S.kind kinds fun env henv s1 x => ?_
  subst henv
  refine ⟨lim.keeps x.toInCall.keep, codeAny_func ?_⟩
  have I : Inv (cxOf (L2.CX P wd) P wd G.K G.mg base N qual scope f cdv A outer s H E) [] (start N vs) H s1 := inv_start S hr.hd e0 hvl r x
  have c : Cxx G P wd base k N scope true (cxOf (L2.CX P wd) P wd G.K G.mg base N qual scope f cdv A outer s H E) (fun cls dd _ H' => E cls dd H') :=
    { K := rfl, mg := rfl, prog := rfl, w := rfl, base := rfl, gd := hg, room := hr.deeper _, calm := rfl, tk := takes_of rfl rfl rfl rfl, po := passes_of rfl,
      xN := rfl, nd := S.nd, sc := rfl, kf := S.kind, fnl := fun _ _ => rfl }
  have at0 : At G Bd (ds.map .dat ++ List.replicate (N.length - ds.length) .emp) w (start N vs) H := ⟨hbd, start_ok N.length (by omega) dl rfl, hdk⟩
  have no : owns (ds.map Sl.dat ++ List.replicate (N.length - ds.length) Sl.emp) (start N vs) = [] := by
    cases e : owns (ds.map Sl.dat ++ List.replicate (N.length - ds.length) Sl.emp) (start N vs) with
    | nil => rfl
    | cons b rr =>
      exfalso
      have hb : b ∈ owns (ds.map Sl.dat ++ List.replicate (N.length - ds.length) Sl.emp) (start N vs) := by rw [e]; exact List.mem_cons_self
      obtain ⟨i, d, h1, _⟩ := owns_iff.mp hb
      by_cases hi : i < ds.length
      · rw [List.getElem?_append_left (by rw [List.length_map]; exact hi), List.getElem?_map] at h1
        cases e2 : ds[i]? with
        | none => rw [e2] at h1; cases h1
        | some z => rw [e2] at h1; cases h1
      · rw [List.getElem?_append_right (by rw [List.length_map]; omega), List.getElem?_replicate] at h1
        split at h1 <;> cases h1
  have post : PostS G (fun cls dd _ H' => E cls dd H') Bd (ds.map .dat ++ List.replicate (N.length - ds.length) .emp) (start N vs) H (exSs Γ pb (ds.map .dat ++ List.replicate (N.length - ds.length) .emp) w) { nx := fun _ H' => Q .non H', rt := Q } := by
    unfold runB at hp
    rw [if_pos hlen] at hp
    cases ee : exSs Γ pb (ds.map .dat ++ List.replicate (N.length - ds.length) .emp) w with
    | nx ρ w' =>
      simp only [ee] at hp
      intro σ' H' s' en nb dk
      exact hp .non H' (s'.sub fun b hb => by rw [no] at hb; exact hb) dk rfl
    | rt d w' =>
      simp only [ee] at hp
      intro v H' s' dk dt
      exact hp v H' (s'.sub fun b hb => by rw [no] at hb; exact hb) dk dt
    | exc xx ρ w' =>
      simp only [ee] at hp
      intro cls dd σ' H' s' en nb dk ex
      refine hp cls dd H' (s'.sub fun b hb => by rw [no] at hb; exact hb) dk ?_
      obtain ⟨C, h1, h2, h3⟩ := ex
      refine ⟨C, h1, h2, h3.imp id ?_⟩
      rintro ⟨d, uu, h4, h5, h6, h7⟩
      exact ⟨d, uu, h4, h5, h6, h7.mono (fun a o k e => ⟨k.1, e⟩) fun _ _ e => e⟩
    | bk ρ w' => simp only [ee] at hp; exact hp.elim
    | ct ρ w' => simp only [ee] at hp; exact hp.elim
    | stuck => simp only [ee] at hp; exact hp.elim
  refine wpAny_mono ((soundSs M pb c he).run [] s1 (start N vs) H _ I ⟨Bd, _, w, at0, post⟩) (fun fl s' hs => ?_) fun e s' hs => hs
  have fin : ∀ {σ' : L2.St} {H' : Hp} {v : V} {u : Value}, Inv (cxOf (L2.CX P wd) P wd G.K G.mg base N qual scope f cdv A outer s H E) [] σ' H' s' → RelV v u → Q v H' → CE outer P wd H s Q u s' :=
    fun {σ' H' v u} J rv q => ⟨v, H', J.os, J.bare, J.base, J.hok, rv, q⟩
  cases fl with
  | ret u =>
    obtain ⟨v, σ', H', J, rv, q⟩ := hs
    exact fin J rv q
  | next =>
    obtain ⟨σ', H', J, q⟩ := hs
    exact fin (v := V.non) (u := Value.none) J rfl q
  | brk =>
    obtain ⟨_, _, _, q⟩ := hs
    exact False.elim q
  | cont =>
    obtain ⟨_, _, _, q⟩ := hs
    exact False.elim q
end
end DL
set_option maxRecDepth 100000
set_option maxHeartbeats 4000000
set_option linter.all false
namespace DL
open PySem PySem.Spec PyProof.Rows L2
/-! ### operators: what they answer -/
def lim : Nat := 16777216
theorem lim_eq : lim = sizeLine := by rw [sizeLine_eq]; rfl
def RW.of (o : Option D) (w : DW) : RW := match o with | some d => .ok d w | none => .stuck
theorem Op2.any {G : GC} {X : Cx} {W : WX} {f : Value → Value → Sem Value} {F : D → D → Option D}
    (h : ∀ (ok : Addr → Prop) (H : Hp) (dx dy d : D) (x y : V) (Q : VK), DtB G ok H dx x → DtB G ok H dy y → F dx dy = some d → (∀ v H', Ext H H' → Dt G ok H' d v → Q v H') → (∀ a, H a = none → ok a) → ∃ r, OpR X f r ∧ r x y H Q) :
    Op2 G X W f (fun a b w => RW.of (F a b) w) := by
  rintro pins s σ H x y u v Q I rx ry ⟨Bd, ρ, w, dx, dy, a, hx, hy, q⟩
  cases e : F dx dy with
  | none => simp only [RW.of, e, RW.at] at q; exact q.elim
  | some d =>
    simp only [RW.of, e, RW.at] at q
    obtain ⟨r, h1, h2⟩ := h _ H dx dy d x y Q hx hy e (fun v H' e r => PostE.next a q e r) fun b hb => fresh_ok a hb
    exact h1 pins s σ H x y u v Q I rx ry h2
mutual
def D.py : D → Option PyData
  | .non => some .none
  | .bl b => some (.bool b)
  | .int i => some (.int i)
  | .str s => some (.str s)
  | .lst ds => match D.pys ds with | some xs => some (.list xs) | none => none
  | .tup ds => match D.pys ds with | some xs => some (.tuple xs) | none => none
  | .dK _ _ => none
  | .dT _ _ => none
  | .ins _ _ _ => none
  | .deck => none
def D.pys : List D → Option (List PyData)
  | [] => some []
  | d :: ds => match D.py d, D.pys ds with | some a, some as => some (a :: as) | _, _ => none
end
section
variable {G : GC} {ok : Addr → Prop} {H : Hp}
theorem sqL_of {a : Addr} {xs : List V} (h : H a = some (.lst xs)) : SqL G.K H a xs := .inl (.inl h)
theorem sqT_of {a : Addr} {xs : List V} {b : Bool} (h : H a = some (.tup xs) ∨ ((∀ H', SqT G.K H' a xs) ∧ b = true)) : SqT G.K H a xs := h.elim (fun h => .inl (.inl h)) fun h => h.1 H
mutual
theorem Dt.dp : ∀ (d : D) (v : V) (p : PyData), Dt G ok H d v → d.py = some p → Dp G.K H v p
  | .non, v, p, h, e => by cases (show v = V.non from h); cases (show some PyData.none = some p from e); exact .non
  | .bl b, v, p, h, e => by cases (show v = V.bl b from h); cases (show some (PyData.bool b) = some p from e); exact .bl b
  | .int i, v, p, h, e => by cases (show v = V.int i from h); cases (show some (PyData.int i) = some p from e); exact .int i
  | .str s, v, p, h, e => by cases (show v = V.str s from h.1); cases (show some (PyData.str s) = some p from e); exact .str s
  | .lst ds, v, p, h, e => by
    obtain ⟨a, xs, e1, _, e2, e3⟩ := h
    subst e1
    rw [D.py] at e
    cases e4 : D.pys ds with
    | none => rw [e4] at e; cases e
    | some ps =>
      rw [e4] at e
      cases e
      exact .lst (sqL_of e2) (DtL.dp ds xs ps e3 e4)
  | .tup ds, v, p, h, e => by
    obtain ⟨a, xs, e1, e2, e3⟩ := h
    subst e1
    rw [D.py] at e
    cases e4 : D.pys ds with
    | none => rw [e4] at e; cases e
    | some ps =>
      rw [e4] at e
      cases e
      exact .tup (sqT_of e2) (DtL.dp ds xs ps e3 e4)
  | .dK _ _, v, p, h, e => by rw [D.py] at e; cases e
  | .dT _ _, v, p, h, e => by rw [D.py] at e; cases e
  | .ins _ _ _, v, p, h, e => by rw [D.py] at e; cases e
  | .deck, v, p, h, e => by rw [D.py] at e; cases e
theorem DtL.dp : ∀ (ds : List D) (vs : List V) (ps : List PyData), DtL G ok H ds vs → D.pys ds = some ps → DpAll G.K H vs ps
  | [], vs, ps, h, e => by
    rw [show vs = [] from h]
    rw [D.pys] at e
    cases e
    exact .nil
  | d :: ds, vs, ps, h, e => by
    obtain ⟨v, r, e1, e2, e3⟩ := h
    subst e1
    rw [D.pys] at e
    cases e4 : D.py d with
    | none => rw [e4] at e; cases e
    | some q =>
      cases e5 : D.pys ds with
      | none => rw [e4, e5] at e; cases e
      | some qs =>
        rw [e4, e5] at e
        cases e
        exact .cons (Dt.dp d v q e2 e4) (DtL.dp ds r qs e3 e5)
end
theorem DtB.dp {d : D} {v : V} {p : PyData} (h : DtB G ok H d v) (e : d.py = some p) : Dp G.K H v p := by
  cases d with
  | lst ds =>
    obtain ⟨a, e1, xs, e2, e3⟩ := h
    exact Dt.dp (ok := fun _ => True) (.lst ds) v p ⟨a, xs, e1, trivial, e2, e3.mono (fun _ _ _ q => ⟨trivial, q⟩) fun _ _ q => q⟩ e
  | dK _ _ => rw [D.py] at e; cases e
  | dT _ _ => rw [D.py] at e; cases e
  | ins _ _ _ => rw [D.py] at e; cases e
  | _ => exact Dt.dp _ v p h e
theorem dt_newT {ds : List D} {vs : List V} {p : Addr} (h : DtL G ok H ds vs) (hp : H p = none) : Dt G ok (upd H p (.tup vs)) (.tup ds) (.ref p) := ⟨p, vs, rfl, .inl upd_same, h.ext (Ext.new hp)⟩
theorem dt_newL {ds : List D} {vs : List V} {p : Addr} (h : DtL G ok H ds vs) (hp : H p = none) (ho : ok p) : Dt G ok (upd H p (.lst vs)) (.lst ds) (.ref p) := ⟨p, vs, rfl, ho, upd_same, h.ext (Ext.new hp)⟩
end
/-! ### arithmetic -/
def addD : D → D → Option D
  | .int i, .int j => some (.int (i + j))
  | .str a, .str b => if a.length + b.length ≤ lim then some (.str (a ++ b)) else none
  | .tup a, .tup b => if a.length + b.length ≤ lim then some (.tup (a ++ b)) else none
  | .lst a, .lst b => if a.length + b.length ≤ lim then some (.lst (a ++ b)) else none
  | _, _ => none
def mulOk (i j : Int) : Prop := i.natAbs.log2 + j.natAbs.log2 < 1000000
def divOk (j : Int) : Prop := 0 < j ∧ j.natAbs.log2 < 9000
def powOk (i j : Int) : Prop := 0 ≤ j ∧ j ≤ 1000000 ∧ i.natAbs < 2 ^ 64
instance {i j : Int} : Decidable (mulOk i j) := by unfold mulOk; infer_instance
instance {j : Int} : Decidable (divOk j) := by unfold divOk; infer_instance
instance {i j : Int} : Decidable (powOk i j) := by unfold powOk; infer_instance
def binD (o : Operator) (x y : D) : Option D := match o with
  | .Add => addD x y
  | .Sub => (match x, y with | .int i, .int j => some (.int (i - j)) | _, _ => none)
  | .Mult => (match x, y with | .int i, .int j => if mulOk i j then some (.int (i * j)) else none | _, _ => none)
  | .FloorDiv => (match x, y with | .int i, .int j => if divOk j then some (.int (i / j)) else none | _, _ => none)
  | .Mod => (match x, y with | .int i, .int j => if 0 < j then some (.int (i % j)) else none | _, _ => none)
  | .Pow => (match x, y with | .int i, .int j => if powOk i j then some (.int (i ^ j.toNat)) else none | _, _ => none)
  | _ => none
section
variable {G : GC} {P : Program} {wd : World} {base : Heap} {k : Nat} {X : Cx} {W : WX}
theorem bin_ok (c : Cxy G P wd base k X W) (o : Operator) : Op2 G X W (binaryOp o) (fun a b w => RW.of (binD o a b) w) := by
  refine Op2.any fun ok H dx dy d x y Q hx hy e q fr => ?_
  cases o <;> simp only [binD] at e <;> first | (cases e; done) | skip
  · -- Add
    unfold addD at e
    split at e
    · cases e
      cases (show x = _ from hx)
      cases (show y = _ from hy)
      exact ⟨_, op_add, _, _, rfl, rfl, q _ H Ext.refl rfl⟩
    · split at e
      · rename_i hl
        cases e
        cases (show x = _ from hx.1)
        cases (show y = _ from hy.1)
        rw [lim_eq] at hl
        exact ⟨_, op_add_str, _, _, rfl, rfl, hl, q _ H Ext.refl ⟨rfl, by rw [PySem.Str.length_append]; exact hl⟩⟩
      · cases e
    · split at e
      · rename_i a2 b2 hl
        cases e
        obtain ⟨a, xs, e1, e2, e3⟩ := hx
        obtain ⟨b, ys, f1, f2, f3⟩ := hy
        rw [lim_eq, e3.length, f3.length] at hl
        refine ⟨_, op_catA, a, b, xs, ys, e1, f1, by rw [c.K]; exact sqT_of e2, by rw [c.K]; exact sqT_of f2, hl, fun z => ?_, fun _ z => ?_, fun _ _ p hp => ?_⟩
        · have z2 : a2 = [] := List.length_eq_zero_iff.mp (by rw [e3.length, z]; rfl)
          subst z2
          exact q _ H Ext.refl ⟨b, ys, rfl, f2, f3⟩
        · have z2 : b2 = [] := List.length_eq_zero_iff.mp (by rw [f3.length, z]; rfl)
          subst z2
          rw [List.append_nil] at q
          exact q _ H Ext.refl ⟨a, xs, rfl, e2, e3⟩
        · exact q _ _ (Ext.new hp) (dt_newT (e3.append f3) hp)
      · cases e
    · split at e
      · rename_i hl
        cases e
        obtain ⟨a, e1, xs, e2, e3⟩ := hx
        obtain ⟨b, f1, ys, f2, f3⟩ := hy
        rw [lim_eq, e3.length, f3.length] at hl
        exact ⟨_, op_cat, a, b, xs, ys, e1, f1, e2, f2, hl, fun p hp => q _ _ (Ext.new hp) (dt_newL (e3.append f3) hp (fr p hp))⟩
      · cases e
    · cases e
  all_goals
    split at e
    · first
      | (split at e
         · rename_i hc
           cases e
           cases (show x = _ from hx)
           cases (show y = _ from hy)
           first
           | exact ⟨_, op_mulW, _, _, rfl, rfl, hc, q _ H Ext.refl rfl⟩
           | exact ⟨_, op_fdivW, _, _, rfl, rfl, hc, q _ H Ext.refl rfl⟩
           | exact ⟨_, op_mod, _, _, rfl, rfl, hc, q _ H Ext.refl rfl⟩
           | exact ⟨_, op_pow, _, _, rfl, rfl, hc, q _ H Ext.refl rfl⟩
         · cases e)
      | (cases e
         cases (show x = _ from hx)
         cases (show y = _ from hy)
         exact ⟨_, op_sub, _, _, rfl, rfl, q _ H Ext.refl rfl⟩)
    · cases e
end
end DL
set_option maxRecDepth 100000
set_option maxHeartbeats 4000000
set_option linter.all false
namespace DL
open PySem PySem.Spec PyProof.Rows L2
/-! ### comparisons: what they answer -/
def py2 (x y : D) : Option (PyData × PyData) := match x.py, y.py with
  | some p, some q => if SeqAt.shaped p && SeqAt.shaped q then some (p, q) else none
  | _, _ => none
def eqD (x y : D) : Option Bool := match py2 x y with
  | some (p, q) => some (PyData.eqv p q)
  | none => none
def isNo : PyData → Bool | .none => true | _ => false
def ltD (x y : D) : Option Bool := match py2 x y with
  | some (p, q) => if PySem.W.alike p q && !isNo p then some (PySem.W.dataLt p q) else none
  | none => none
def gtD (x y : D) : Option Bool := match py2 x y with
  | some (p, q) => if PySem.W.alike p q && !isNo p then some (PySem.W.dataLt q p) else none
  | none => none
def isnD (x : D) : Bool := match x with | .non => true | _ => false
def isbD (b : Bool) (x : D) : Bool := match x with | .bl c => c == b | _ => false
def keysD : List D → Option (List Key)
  | [] => some []
  | .int i :: ds => (keysD ds).map (Sum.inl i :: ·)
  | .str s :: ds => (keysD ds).map (Sum.inr s :: ·)
  | _ :: _ => none
def keyD : D → Option Key
  | .int i => some (.inl i)
  | .str s => some (.inr s)
  | _ => none
def inSeq (x : D) (ds : List D) : Option Bool := match x.py, D.pys ds with
  | some p, some qs => if SeqAt.shaped p && PyData.canLayAll0 qs then some (qs.any fun z => PyData.eqv z p) else none
  | _, _ => none
def inStr (a z : Str) : Option Bool := match a.cps.toList with
  | [c] => some (decide (c ∈ z.cps.toList))
  | _ => none
def hasK {κ : Type} [DecidableEq κ] (ks : List κ) (k : κ) : Bool := ks.any fun x => decide (x = k)
def lookK {κ : Type} [DecidableEq κ] : List κ → List D → κ → Option D
  | j :: ks, d :: ds, k => if j = k then some d else lookK ks ds k
  | _, _, _ => none
def inD (x y : D) : Option Bool := match y with
  | .lst ds => inSeq x ds
  | .tup ds => inSeq x ds
  | .str z => (match x with | .str a => inStr a z | _ => none)
  | .dK ks _ => (match keyD x with | some k => some (hasK ks k) | none => none)
  | .dT ks _ => (match x with | .tup ds => (match keysD ds with | some k => some (hasK ks k) | none => none) | _ => none)
  | _ => none
def cmpD (o : CmpOp) (x y : D) : Option D := match o with
  | .Eq => (eqD x y).map .bl
  | .NotEq => (eqD x y).map fun b => .bl (!b)
  | .Lt => (ltD x y).map .bl
  | .LtE => (gtD x y).map fun b => .bl (!b)
  | .Gt => (gtD x y).map .bl
  | .GtE => (ltD x y).map fun b => .bl (!b)
  | .Is => (match y with | .non => some (.bl (isnD x)) | .bl b => some (.bl (isbD b x)) | _ => none)
  | .IsNot => (match y with | .non => some (.bl (!isnD x)) | .bl b => some (.bl (!isbD b x)) | _ => none)
  | .In => (inD x y).map .bl
  | .NotIn => (inD x y).map fun b => .bl (!b)
section
variable {G : GC} {P : Program} {wd : World} {base : Heap} {k : Nat} {X : Cx} {W : WX} {ok : Addr → Prop} {H : Hp}
theorem py2_of {x y : D} {p q : PyData} (h : py2 x y = some (p, q)) : x.py = some p ∧ y.py = some q ∧ SeqAt.shaped p = true ∧ SeqAt.shaped q = true := by
  unfold py2 at h
  split at h
  · rename_i p' q' e1 e2
    split at h
    · rename_i h1
      cases h
      simp only [Bool.and_eq_true] at h1
      exact ⟨e1, e2, h1.1, h1.2⟩
    · cases h
  · cases h
theorem op_ltR (hu : X.A.units + 64 < cLine) : OpR X (compareOp .Lt) (fun x y H Q => ∃ p q, Dp X.K H x p ∧ Dp X.K H y q ∧ PySem.W.alike p q = true ∧ isNo p = false ∧ SeqAt.shaped p = true ∧ Q (.bl (PySem.W.dataLt p q)) H) := by
  intro pins s σ H x y v u Q I rx ry ⟨p, q, hp, hq, ha, hn, sh, k⟩
  obtain ⟨as, r1⟩ := Dp.reads I p x v hp rx
  obtain ⟨bs, r2⟩ := Dp.reads I q y u hq ry
  simp only [SeqAt.shaped, Bool.and_eq_true, decide_eq_true_eq] at sh
  have hm : min p.depth q.depth ≤ 64 := Nat.le_trans (Nat.min_le_left _ _) sh.2
  exact PySem.W.lt_data r1 r2 ha (fun z => by rw [z] at hn; cases hn) (by omega) ⟨.bl _, H, I, rfl, k⟩
theorem op_gtR (hu : X.A.units + 64 < cLine) : OpR X (compareOp .Gt) (fun x y H Q => ∃ p q, Dp X.K H x p ∧ Dp X.K H y q ∧ PySem.W.alike p q = true ∧ isNo p = false ∧ SeqAt.shaped p = true ∧ Q (.bl (PySem.W.dataLt q p)) H) := by
  intro pins s σ H x y v u Q I rx ry ⟨p, q, hp, hq, ha, hn, sh, k⟩
  obtain ⟨as, r1⟩ := Dp.reads I p x v hp rx
  obtain ⟨bs, r2⟩ := Dp.reads I q y u hq ry
  simp only [SeqAt.shaped, Bool.and_eq_true, decide_eq_true_eq] at sh
  have hm : min p.depth q.depth ≤ 64 := Nat.le_trans (Nat.min_le_left _ _) sh.2
  exact PySem.W.gt_data r1 r2 ha (fun z => by rw [z] at hn; cases hn) (by omega) ⟨.bl _, H, I, rfl, k⟩
theorem op_leR (hu : X.A.units + 64 < cLine) : OpR X (compareOp .LtE) (fun x y H Q => ∃ p q, Dp X.K H x p ∧ Dp X.K H y q ∧ PySem.W.alike p q = true ∧ isNo p = false ∧ SeqAt.shaped p = true ∧ Q (.bl (!PySem.W.dataLt q p)) H) := by
  intro pins s σ H x y v u Q I rx ry ⟨p, q, hp, hq, ha, hn, sh, k⟩
  obtain ⟨as, r1⟩ := Dp.reads I p x v hp rx
  obtain ⟨bs, r2⟩ := Dp.reads I q y u hq ry
  simp only [SeqAt.shaped, Bool.and_eq_true, decide_eq_true_eq] at sh
  have hm : min p.depth q.depth ≤ 64 := Nat.le_trans (Nat.min_le_left _ _) sh.2
  exact PySem.W.le_data r1 r2 ha (fun z => by rw [z] at hn; cases hn) (by omega) ⟨.bl _, H, I, rfl, k⟩
theorem op_geR (hu : X.A.units + 64 < cLine) : OpR X (compareOp .GtE) (fun x y H Q => ∃ p q, Dp X.K H x p ∧ Dp X.K H y q ∧ PySem.W.alike p q = true ∧ isNo p = false ∧ SeqAt.shaped p = true ∧ Q (.bl (!PySem.W.dataLt p q)) H) := by
  intro pins s σ H x y v u Q I rx ry ⟨p, q, hp, hq, ha, hn, sh, k⟩
  obtain ⟨as, r1⟩ := Dp.reads I p x v hp rx
  obtain ⟨bs, r2⟩ := Dp.reads I q y u hq ry
  simp only [SeqAt.shaped, Bool.and_eq_true, decide_eq_true_eq] at sh
  have hm : min p.depth q.depth ≤ 64 := Nat.le_trans (Nat.min_le_left _ _) sh.2
  exact PySem.W.ge_data r1 r2 ha (fun z => by rw [z] at hn; cases hn) (by omega) ⟨.bl _, H, I, rfl, k⟩
/-! ### keys -/
/-- what the dict at a holds at y, the key a tuple of any kind -/
def DG (K : PySem.W.Frag) (H : Hp) (a : Addr) (y : V) (r : Option V) : Prop :=
  (∃ kvs k, Rd H a (.dK kvs) ∧ y = kV k ∧ r = valV kvs k) ∨ ∃ kvs k b, Rd H a (.dT kvs) ∧ y = .ref b ∧ SqT K H b (k.map kV) ∧ r = valV kvs k
theorem key_ofK {pins : List (Addr × Obj)} {σ : L2.St} {s : Shared} {b : Addr} {ks : List Key} (I : Inv X pins σ H s) (h : SqT X.K H b (ks.map kV)) : (tupleKind (mixKind X.prog X.w)).is s.heap ks b := by
  obtain ⟨its, r, ⟨o, h1, h2, n, h3⟩, _⟩ := I.tuple h
  exact ⟨o, its.toArray, n, h1, h2, h3, by simpa using items_are r⟩
theorem g_get {pins : List (Addr × Obj)} {σ : L2.St} {s : Shared} {a : Addr} {y v : V} {u : Value} {A : Around} {E : Value → Shared → Prop} {Q : Value → Shared → Prop} (hu : A.units + 1 < cLine) (I : Inv X pins σ H s) (g : DG X.K H a y (some v)) (ry : RelV y u) (h : ∀ w' s', Inv X pins σ H s' → RelV v w' → Q w' s') :
    wpAny (model X.prog X.w) A (getItem (.ref a) u) Q E s := by
  rcases g with ⟨kvs, k, e, ey, l⟩ | ⟨kvs, k, b, e, ey, eb, l⟩
  · exact d_getItem hu I (.inl ⟨kvs, k, e, ey, l⟩) ry h
  · subst ey
    cases (show u = Value.ref b from ry)
    obtain ⟨z, hd, xs, rel, dd⟩ := dt_rd I.hok e
    obtain ⟨w', hw, rw'⟩ := RelO.some_of (v := v) (o := (atKey xs k).map (·.2)) (by rw [l]; exact rel.val k)
    obtain ⟨p, hp, hp2⟩ := Option.map_eq_some_iff.mp hw
    refine wpAny_getItem_heap (tupleKind_room_in1 hu) (key_ofK I eb) dd hp ?_
    rw [hp2]
    exact h w' _ (I.tok _) rw'
theorem g_in (hu : X.A.units + 1 < cLine) : OpR X (compareOp .In) (fun y x H Q => ∃ a o, x = .ref a ∧ DG X.K H a y o ∧ Q (.bl o.isSome) H) := by
  rintro pins s σ H y x u v Q I ry rx ⟨a, o, rfl, g, q⟩
  cases (show v = Value.ref a from rx)
  rcases g with ⟨kvs, k, e, ey, l⟩ | ⟨kvs, k, b, e, ey, eb, l⟩
  · exact d_in hu I (.inl ⟨kvs, k, e, ey, l⟩) ry fun s' I' => ⟨.bl _, H, I', rfl, q⟩
  · subst ey
    cases (show u = Value.ref b from ry)
    obtain ⟨z, hd, xs, rel, dd⟩ := dt_rd I.hok e
    refine wpAny_in_heap (tupleKind_room_in1 hu) (key_ofK I eb) hd dd ?_
    have e2 := (rel.val k).isSome_eq
    rw [Option.isSome_map] at e2
    rw [← e2, ← l]
    exact ⟨.bl _, H, I.tok _, rfl, q⟩
theorem g_notIn (hu : X.A.units + 1 < cLine) : OpR X (compareOp .NotIn) (fun y x H Q => ∃ a o, x = .ref a ∧ DG X.K H a y o ∧ Q (.bl (!o.isSome)) H) := by
  rintro pins s σ H y x u v Q I ry rx ⟨a, o, rfl, g, q⟩
  cases (show v = Value.ref a from rx)
  rcases g with ⟨kvs, k, e, ey, l⟩ | ⟨kvs, k, b, e, ey, eb, l⟩
  · exact d_notIn hu I (.inl ⟨kvs, k, e, ey, l⟩) ry fun s' I' => ⟨.bl _, H, I', rfl, q⟩
  · subst ey
    cases (show u = Value.ref b from ry)
    obtain ⟨z, hd, xs, rel, dd⟩ := dt_rd I.hok e
    refine wpAny_notIn_heap (tupleKind_room_in1 hu) (key_ofK I eb) hd dd ?_
    have e2 := (rel.val k).isSome_eq
    rw [Option.isSome_map] at e2
    rw [← e2, ← l]
    exact ⟨.bl _, H, I.tok _, rfl, q⟩
theorem valV_mem {κ : Type} [DecidableEq κ] (k : κ) : ∀ kvs : List (κ × V), (valV kvs k).isSome = hasK (kvs.map (·.1)) k
  | [] => rfl
  | p :: r => by
    unfold hasK
    rw [List.map_cons, List.any_cons]
    by_cases e : p.1 = k
    · rw [valV_pos e, decide_eq_true e]
      rfl
    · rw [valV_neg e, decide_eq_false e, Bool.false_or]
      exact valV_mem k r
theorem valV_D {κ : Type} [DecidableEq κ] (k : κ) : ∀ (kvs : List (κ × V)) (ds : List D) (d : D), DtL G ok H ds (kvs.map (·.2)) → lookK (kvs.map (·.1)) ds k = some d → ∃ v, valV kvs k = some v ∧ Dt G ok H d v
  | [], ds, d, _, h => by simp [lookK] at h
  | p :: r, [], d, _, h => by simp [lookK] at h
  | p :: r, e :: ds, d, dl, h => by
    obtain ⟨v, vs, e1, e2, e3⟩ := dl
    cases e1
    rw [List.map_cons, lookK] at h
    by_cases q : p.1 = k
    · rw [valV_pos q]
      rw [if_pos q] at h
      cases h
      exact ⟨_, rfl, e2⟩
    · rw [valV_neg q]
      rw [if_neg q] at h
      exact valV_D k r ds d e3 h
theorem valV_no {κ : Type} [DecidableEq κ] (k : κ) : ∀ (kvs : List (κ × V)), hasK (kvs.map (·.1)) k = false → valV kvs k = none := fun kvs h => by
  have := valV_mem k kvs
  rw [h] at this
  cases e : valV kvs k with
  | none => rfl
  | some v => rw [e] at this; cases this
theorem keyD_of {x : D} {k : Key} {v : V} (h : keyD x = some k) (r : DtB G ok H x v) : v = kV k := by
  cases x <;> simp only [keyD] at h <;> first | (cases h; done) | skip
  · cases h
    exact r
  · cases h
    exact r.1
theorem keysD_of : ∀ {ds : List D} {k : List Key} {vs : List V}, keysD ds = some k → DtL G ok H ds vs → vs = k.map kV
  | [], k, vs, h, r => by
    cases h
    rw [show vs = [] from r]
    rfl
  | d :: ds, k, vs, h, r => by
    obtain ⟨v, us, e1, e2, e3⟩ := r
    subst e1
    cases d <;> simp only [keysD] at h <;> first | (cases h; done) | skip
    · obtain ⟨k', h1, h2⟩ := Option.map_eq_some_iff.mp h
      subst h2
      rw [keysD_of h1 e3, show v = _ from e2]
      rfl
    · obtain ⟨k', h1, h2⟩ := Option.map_eq_some_iff.mp h
      subst h2
      rw [keysD_of h1 e3, show v = _ from e2.1]
      rfl
end
end DL
set_option maxRecDepth 100000
set_option maxHeartbeats 4000000
set_option linter.all false
namespace DL
open PySem PySem.Spec PyProof.Rows L2
section
variable {G : GC} {P : Program} {wd : World} {base : Heap} {k : Nat} {X : Cx} {W : WX} {ok : Addr → Prop} {H : Hp}
theorem op_inT (hu : X.A.units + 65 < cLine) : OpR X (compareOp .In) (fun x y H Q => ∃ d ds, Dp X.K H x d ∧ (Dp X.K H y (.list ds) ∨ Dp X.K H y (.tuple ds)) ∧ SeqAt.shaped d = true ∧ PyData.canLayAll0 ds = true ∧ Q (.bl (ds.any fun z => PyData.eqv z d)) H) := by
  intro pins s σ H x y v u Q I rx ry ⟨d, ds, hd, he, sd, se, q⟩
  obtain ⟨as, r1⟩ := Dp.reads I d x v hd rx
  have hr : X.A.units + 1 + min (PyData.depthAll ds) d.depth < cLine := by
    have sh := sd
    simp only [SeqAt.shaped, Bool.and_eq_true, decide_eq_true_eq] at sh
    have hm : min (PyData.depthAll ds) d.depth ≤ 64 := Nat.le_trans (Nat.min_le_right _ _) sh.2
    omega
  rcases he with he | he
  · obtain ⟨bs, r2⟩ := Dp.reads I _ y u he ry
    exact SeqAt.in_list_reads r2 r1 se (SeqAt.canLay_of_shaped sd) hr ⟨.bl _, H, I, rfl, q⟩
  · obtain ⟨bs, r2⟩ := Dp.reads I _ y u he ry
    exact SeqAt.in_tuple_reads r2 r1 se (SeqAt.canLay_of_shaped sd) hr ⟨.bl _, H, I, rfl, q⟩
theorem op_notInT (hu : X.A.units + 65 < cLine) : OpR X (compareOp .NotIn) (fun x y H Q => ∃ d ds, Dp X.K H x d ∧ (Dp X.K H y (.list ds) ∨ Dp X.K H y (.tuple ds)) ∧ SeqAt.shaped d = true ∧ PyData.canLayAll0 ds = true ∧ Q (.bl (!ds.any fun z => PyData.eqv z d)) H) := by
  intro pins s σ H x y v u Q I rx ry ⟨d, ds, hd, he, sd, se, q⟩
  obtain ⟨as, r1⟩ := Dp.reads I d x v hd rx
  have hr : X.A.units + 1 + min (PyData.depthAll ds) d.depth < cLine := by
    have sh := sd
    simp only [SeqAt.shaped, Bool.and_eq_true, decide_eq_true_eq] at sh
    have hm : min (PyData.depthAll ds) d.depth ≤ 64 := Nat.le_trans (Nat.min_le_right _ _) sh.2
    omega
  rcases he with he | he
  · obtain ⟨bs, r2⟩ := Dp.reads I _ y u he ry
    exact SeqAt.notIn_list_reads r2 r1 se (SeqAt.canLay_of_shaped sd) hr ⟨.bl _, H, I, rfl, q⟩
  · obtain ⟨bs, r2⟩ := Dp.reads I _ y u he ry
    exact SeqAt.notIn_tuple_reads r2 r1 se (SeqAt.canLay_of_shaped sd) hr ⟨.bl _, H, I, rfl, q⟩
theorem isn_of {d : D} {v : V} (h : DtB G ok H d v) : decide (v = V.non) = isnD d := by
  cases d <;> simp only [isnD]
  · cases (show v = V.non from h); rfl
  · cases (show v = V.bl _ from h); simp
  · cases (show v = V.int _ from h); simp
  · cases (show v = V.str _ from h.1); simp
  · obtain ⟨a, e, _⟩ := h; subst e; simp
  · obtain ⟨a, _, e, _⟩ := h; subst e; simp
  · obtain ⟨a, e, _⟩ := h; subst e; simp
  · obtain ⟨a, e, _⟩ := h; subst e; simp
  · obtain ⟨a, C, dx, us, e, _⟩ := h; subst e; simp
  · cases (show v = V.ref G.dk from h); simp
/-- the membership, by its rules -/
theorem in_rule (c : Cxy G P wd base k X W) {dx dy : D} {x y : V} {b : Bool} (hx : DtB G ok H dx x) (hy : DtB G ok H dy y) (e : inD dx dy = some b) :
    (∃ r, OpR X (compareOp .In) r ∧ ∀ Q : VK, Q (.bl b) H → r x y H Q) ∧ ∃ r, OpR X (compareOp .NotIn) r ∧ ∀ Q : VK, Q (.bl (!b)) H → r x y H Q := by
  have hu := c.room.un
  have u65 : X.A.units + 65 < cLine := by omega
  have u1 : X.A.units + 1 < cLine := by omega
  have seq : ∀ ds, inSeq dx ds = some b → (∀ qs, D.pys ds = some qs → Dp X.K H y (.list qs) ∨ Dp X.K H y (.tuple qs)) →
      (∃ r, OpR X (compareOp .In) r ∧ ∀ Q : VK, Q (.bl b) H → r x y H Q) ∧ ∃ r, OpR X (compareOp .NotIn) r ∧ ∀ Q : VK, Q (.bl (!b)) H → r x y H Q := by
    intro ds e hd
    unfold inSeq at e
    split at e
    · rename_i p qs e1 e2
      split at e
      · rename_i h1
        cases e
        simp only [Bool.and_eq_true] at h1
        have h3 : Dp X.K H x p := by rw [c.K]; exact hx.dp e1
        exact ⟨⟨_, op_inT u65, fun Q q => ⟨p, qs, h3, hd qs e2, h1.1, h1.2, q⟩⟩, ⟨_, op_notInT u65, fun Q q => ⟨p, qs, h3, hd qs e2, h1.1, h1.2, q⟩⟩⟩
      · cases e
    · cases e
  have dic : ∀ (a : Addr) (o : Option V), y = .ref a → DG X.K H a x o → o.isSome = b → (∃ r, OpR X (compareOp .In) r ∧ ∀ Q : VK, Q (.bl b) H → r x y H Q) ∧ ∃ r, OpR X (compareOp .NotIn) r ∧ ∀ Q : VK, Q (.bl (!b)) H → r x y H Q := by
    intro a o h1 h2 h3
    subst h3
    exact ⟨⟨_, g_in u1, fun Q q => ⟨a, o, h1, h2, q⟩⟩, ⟨_, g_notIn u1, fun Q q => ⟨a, o, h1, h2, q⟩⟩⟩
  cases dy <;> simp only [inD] at e <;> first | (cases e; done) | skip
  · rename_i z
    split at e
    · rename_i a
      cases (show y = _ from hy.1)
      cases (show x = _ from hx.1)
      unfold inStr at e
      split at e
      · rename_i ch hc
        cases e
        have hs : a = ⟨#[ch]⟩ := PySem.Str.ext' (Array.toList_inj.mp hc)
        exact ⟨⟨_, op_in_sign, fun Q q => ⟨ch, z, by rw [hs], rfl, q⟩⟩, ⟨_, op_notIn_sign, fun Q q => ⟨ch, z, by rw [hs], rfl, q⟩⟩⟩
      · cases e
    · cases e
  · rename_i ds
    refine seq ds e fun qs e2 => .inl ?_
    rw [c.K]
    exact hy.dp (by rw [D.py, e2])
  · rename_i ds
    refine seq ds e fun qs e2 => .inr ?_
    rw [c.K]
    exact DtB.dp hy (by rw [D.py, e2])
  · rename_i ks vs
    obtain ⟨a, e1, us, e2, e3, e4⟩ := hy
    split at e
    · rename_i kk hk
      cases e
      refine dic a (valV us kk) e1 (.inl ⟨us, kk, .inl e2, keyD_of hk hx, rfl⟩) ?_
      rw [valV_mem, e3]
    · cases e
  · rename_i ks vs
    obtain ⟨a, e1, us, e2, e3, e4⟩ := hy
    split at e
    · rename_i ds
      split at e
      · rename_i kk hk
        cases e
        obtain ⟨b2, xs, f1, f2, f3⟩ := hx
        refine dic a (valV us kk) e1 (.inr ⟨us, kk, b2, .inl e2, f1, ?_, rfl⟩) ?_
        · rw [← keysD_of hk f3, c.K]
          exact sqT_of f2
        · rw [valV_mem, e3]
      · cases e
    · cases e
theorem op_isB : OpR X (compareOp .Is) (fun x y H Q => ∃ b : Bool, y = .bl b ∧ Q (.bl (decide (x = .bl b))) H) := by
  intro pins s σ H x y v u Q I rx ry h
  obtain ⟨b, rfl, q⟩ := h
  cases (show u = Value.bool b from ry)
  refine wpAny_is_plain ?_ ⟨_, H, I, ?_, q⟩
  · cases x <;> first
      | (cases rx; rfl)
      | (obtain ⟨t, rfl⟩ := rx; rfl)
  · show Value.bool _ = Value.bool _
    congr 1
    cases x <;> first
      | (cases rx; rfl)
      | (obtain ⟨t, rfl⟩ := rx; rfl)
      | (cases rx; rename_i c; cases b <;> cases c <;> rfl)
theorem op_notB : OpR X (compareOp .IsNot) (fun x y H Q => ∃ b : Bool, y = .bl b ∧ Q (.bl (!decide (x = .bl b))) H) := by
  intro pins s σ H x y v u Q I rx ry h
  obtain ⟨b, rfl, q⟩ := h
  cases (show u = Value.bool b from ry)
  refine wpAny_isNot_plain ?_ ⟨_, H, I, ?_, q⟩
  · cases x <;> first
      | (cases rx; rfl)
      | (obtain ⟨t, rfl⟩ := rx; rfl)
  · show Value.bool _ = Value.bool _
    congr 1
    cases x <;> first
      | (cases rx; rfl)
      | (obtain ⟨t, rfl⟩ := rx; rfl)
      | (cases rx; rename_i c; cases b <;> cases c <;> rfl)
theorem isb_of {ok : Addr → Prop} {H : Hp} {d : D} {x : V} {b : Bool} (h : DtB G ok H d x) : decide (x = V.bl b) = isbD b d := by
  cases d with
  | bl c =>
    cases (show x = V.bl c from h)
    cases b <;> cases c <;> rfl
  | non => cases (show x = V.non from h); rfl
  | int i => cases (show x = V.int i from h); rfl
  | str s => cases (show x = V.str s from h.1); rfl
  | lst ds => obtain ⟨a, e, _⟩ := h; subst e; rfl
  | tup ds => obtain ⟨a, xs, e, _⟩ := h; subst e; rfl
  | dK ks ds => obtain ⟨a, e, _⟩ := h; subst e; rfl
  | dT ks ds => obtain ⟨a, e, _⟩ := h; subst e; rfl
  | ins c ns ds => obtain ⟨a, C, dx, us, e, _⟩ := h; subst e; rfl
  | deck => cases (show x = V.ref _ from h); rfl
theorem cmp_ok (c : Cxy G P wd base k X W) (o : CmpOp) : Op2 G X W (compareOp o) (fun a b w => RW.of (cmpD o a b) w) := by
  refine Op2.any fun ok H dx dy d x y Q hx hy e q fr => ?_
  have hu := c.room.un
  have u64 : X.A.units + 64 < cLine := by omega
  have out : ∀ b : Bool, (∀ v H', Ext H H' → Dt G ok H' (.bl b) v → Q v H') → Q (.bl b) H := fun b q => q _ H Ext.refl rfl
  cases o <;> simp only [cmpD] at e
  case Eq =>
    obtain ⟨b, h1, h2⟩ := Option.map_eq_some_iff.mp e
    subst h2
    unfold eqD at h1
    split at h1
    · rename_i p p2 h3
      cases h1
      obtain ⟨a1, a2, a3, a4⟩ := py2_of h3
      exact ⟨_, op_eqD u64, p, p2, by rw [c.K]; exact hx.dp a1, by rw [c.K]; exact hy.dp a2, a3, a4, out _ q⟩
    · cases h1
  case NotEq =>
    obtain ⟨b, h1, h2⟩ := Option.map_eq_some_iff.mp e
    subst h2
    unfold eqD at h1
    split at h1
    · rename_i p p2 h3
      cases h1
      obtain ⟨a1, a2, a3, a4⟩ := py2_of h3
      exact ⟨_, op_neD u64, p, p2, by rw [c.K]; exact hx.dp a1, by rw [c.K]; exact hy.dp a2, a3, a4, out _ q⟩
    · cases h1
  case Is =>
    split at e
    · cases e
      cases (show y = V.non from hy)
      exact ⟨_, op_isN, rfl, by rw [isn_of hx]; exact out _ q⟩
    · rename_i b
      cases e
      cases (show y = V.bl b from hy)
      exact ⟨_, op_isB, b, rfl, by rw [isb_of hx]; exact out _ q⟩
    · cases e
  case IsNot =>
    split at e
    · cases e
      cases (show y = V.non from hy)
      exact ⟨_, op_notN, rfl, by rw [isn_of hx]; exact out _ q⟩
    · rename_i b
      cases e
      cases (show y = V.bl b from hy)
      exact ⟨_, op_notB, b, rfl, by rw [isb_of hx]; exact out _ q⟩
    · cases e
  case In =>
    obtain ⟨b, h1, h2⟩ := Option.map_eq_some_iff.mp e
    subst h2
    obtain ⟨⟨r, h3, h4⟩, _⟩ := in_rule c hx hy h1
    exact ⟨r, h3, h4 Q (out _ q)⟩
  case NotIn =>
    obtain ⟨b, h1, h2⟩ := Option.map_eq_some_iff.mp e
    subst h2
    obtain ⟨_, ⟨r, h3, h4⟩⟩ := in_rule c hx hy h1
    exact ⟨r, h3, h4 Q (out _ q)⟩
  all_goals
    obtain ⟨b, h1, h2⟩ := Option.map_eq_some_iff.mp e
    subst h2
    first | unfold ltD at h1 | unfold gtD at h1
    split at h1
    · rename_i p p2 h3
      split at h1
      · rename_i h4
        cases h1
        simp only [Bool.and_eq_true, Bool.not_eq_true'] at h4
        obtain ⟨a1, a2, a3, a4⟩ := py2_of h3
        first
        | exact ⟨_, op_ltR u64, p, p2, by rw [c.K]; exact hx.dp a1, by rw [c.K]; exact hy.dp a2, h4.1, h4.2, a3, out _ q⟩
        | exact ⟨_, op_leR u64, p, p2, by rw [c.K]; exact hx.dp a1, by rw [c.K]; exact hy.dp a2, h4.1, h4.2, a3, out _ q⟩
        | exact ⟨_, op_gtR u64, p, p2, by rw [c.K]; exact hx.dp a1, by rw [c.K]; exact hy.dp a2, h4.1, h4.2, a3, out _ q⟩
        | exact ⟨_, op_geR u64, p, p2, by rw [c.K]; exact hx.dp a1, by rw [c.K]; exact hy.dp a2, h4.1, h4.2, a3, out _ q⟩
      · cases h1
    · cases h1
/-! ### subscripts -/
def getSD (z : Str) (i : Int) : Option D := match atI z.cps.toList i with
  | some c => some (.str ⟨#[c]⟩)
  | none => none
def getD (x y : D) : Option D := match x with
  | .lst ds => (match y with | .int i => atI ds i | _ => none)
  | .tup ds => (match y with | .int i => atI ds i | _ => none)
  | .str z => (match y with | .int i => getSD z i | _ => none)
  | .dK ks vs => (match keyD y with | some k => lookK ks vs k | none => none)
  | .dT ks vs => (match y with | .tup ds => (match keysD ds with | some k => lookK ks vs k | none => none) | _ => none)
  | _ => none
theorem atI_D {ds : List D} {vs : List V} {i : Int} {d : D} (h : DtL G ok H ds vs) (e : atI ds i = some d) : ∃ v, atI vs i = some v ∧ Dt G ok H d v := by
  unfold atI at e ⊢
  rw [h.length] at e
  cases e1 : ixN vs.length i with
  | none => rw [e1] at e; cases e
  | some j =>
    rw [e1] at e
    exact h.getD e
theorem sub_dict {value slice : Expr} {pins : List (Addr × Obj)} {s : Shared} {σ : L2.St} {Q : VK} {a : Addr} {y v : V} {u : Value} (hu : X.A.units + 1 < cLine) (I : Inv X pins σ H s) (g : DG X.K H a y (some v)) (ry : RelV y u) (q : Q v H) (hs : subscripted slice false (.ref a) u = operate [.ref a, u] (getItem (.ref a) u)) :
    wpAny (model X.prog X.w) X.A (subscriptTail value slice (.ref a) u) (EP X pins σ Q) X.xe s := by
  have hT : s.TypeIs (.ref a) "dict" := by
    rcases g with ⟨kvs, k, e, _, _⟩ | ⟨kvs, k, b, e, _, _, _⟩
    · obtain ⟨_, _, vs, _, dd⟩ := dk_rd I.hok e
      exact dd.typeIs
    · obtain ⟨_, _, xs, _, dd⟩ := dt_rd I.hok e
      exact dd.typeIs
  unfold subscriptTail
  refine wpAny_bind ?_
  rw [getitemInPython_of_ne hT.not_modules]
  refine wpAny_bind (wpAny_specialOf hT PySem.F.slot_dict_getitem.lookup ?_)
  have fin : wpAny (model X.prog X.w) X.A (subscripted slice false (.ref a) u) (fun r s₃ => wpAny (model X.prog X.w) X.A (letTemporaryGo value (.ref a) r >>= fun _ => pure r) (EP X pins σ Q) X.xe s₃) X.xe s := by
    rw [hs]
    exact wpAny_operating (g_get hu I g ry fun w' s' I' r' => wpAny_bind (wpAny_letTemporaryGo (wpAny_pure ⟨v, H, I', r', q⟩)))
  first
    | exact wpAny_pure (wpAny_bind fin)
    | exact wpAny_bind (wpAny_pure (wpAny_bind fin))
    | exact wpAny_bind fin
theorem get_ok (c : Cxy G P wd base k X W) (a b : Expr) (hb : PlainIx b) : Op2 G X W (fun o i => subscriptTail a b o i) (fun x y w => RW.of (getD x y) w) := by
  rintro pins s σ H x y u v Q I rx ry ⟨Bd, ρ, w, dx, dy, at_, hx, hy, q⟩
  have u1 : X.A.units + 1 < cLine := by have := c.room.un; omega
  cases e : getD dx dy with
  | none => simp only [RW.of, e, RW.at] at q; exact q.elim
  | some d =>
    simp only [RW.of, e, RW.at] at q
    have fin : ∀ z, Dt G (okA Bd (owns ρ σ)) H d z → Q z H := fun z hz => PostE.here at_ q hz
    cases dx <;> simp only [getD] at e <;> first | (cases e; done) | skip
    · rename_i z
      split at e
      · rename_i i
        unfold getSD at e
        split at e
        · rename_i ch hc
          cases e
          cases (show y = _ from hy)
          exact ix_str a b pins s σ H x _ u v Q I rx ry ⟨z, i, ch, hx.1, rfl, hx.2, hc, fin _ ⟨rfl, by show (1 : Nat) ≤ sizeLine; rw [sizeLine_eq]; decide⟩⟩ (hb _ _)
        · cases e
      · cases e
    · rename_i ds
      split at e
      · rename_i i
        obtain ⟨ad, e1, xs, e2, e3⟩ := hx
        obtain ⟨z, e4, e5⟩ := atI_D e3 e
        exact ix_list a b pins s σ H x _ u v Q I rx ry ⟨ad, xs, i, z, e1, hy, .inl (.inl e2), e4, fin _ e5⟩ (hb _ _)
      · cases e
    · rename_i ds
      split at e
      · rename_i i
        obtain ⟨ad, xs, e1, e2, e3⟩ := hx
        obtain ⟨z, e4, e5⟩ := atI_D e3 e
        exact ix_tup a b pins s σ H x _ u v Q I rx ry ⟨ad, xs, i, z, e1, hy, by rw [c.K]; exact sqT_of e2, e4, fin _ e5⟩ (hb _ _)
      · cases e
    · rename_i ks vs
      obtain ⟨ad, e1, us, e2, e3, e4⟩ := hx
      split at e
      · rename_i kk hk
        rw [← e3] at e
        obtain ⟨z, e5, e6⟩ := valV_D kk us vs d e4 e
        subst e1
        cases (show u = Value.ref ad from rx)
        exact sub_dict u1 I (.inl ⟨us, kk, .inl e2, keyD_of hk hy, e5.symm⟩) ry (fin _ e6) (hb _ _)
      · cases e
    · rename_i ks vs
      obtain ⟨ad, e1, us, e2, e3, e4⟩ := hx
      split at e
      · rename_i ds
        split at e
        · rename_i kk hk
          rw [← e3] at e
          obtain ⟨z, e5, e6⟩ := valV_D kk us vs d e4 e
          subst e1
          cases (show u = Value.ref ad from rx)
          obtain ⟨b2, xs, f1, f2, f3⟩ := hy
          exact sub_dict u1 I (.inr ⟨us, kk, b2, .inl e2, f1, by rw [← keysD_of hk f3, c.K]; exact sqT_of f2, e5.symm⟩) ry (fin _ e6) (hb _ _)
        · cases e
      · cases e
end
end DL
set_option maxRecDepth 100000
set_option maxHeartbeats 4000000
set_option linter.all false
namespace DL
open PySem PySem.Spec PyProof.Rows L2
mutual
theorem nodict : ∀ d : PyData, d.canLay0 = true → d.hasDict = false
  | .none, _ => rfl
  | .bool _, _ => rfl
  | .int _, _ => rfl
  | .str _, _ => rfl
  | .list xs, h => by
    rw [PyData.hasDict]
    exact nodictAll xs (by rw [PyData.canLay0] at h; exact h)
  | .tuple xs, h => by
    rw [PyData.hasDict]
    exact nodictAll xs (by rw [PyData.canLay0] at h; exact h)
  | .dict _, h => by rw [PyData.canLay0] at h; cases h
theorem nodictAll : ∀ ds : List PyData, PyData.canLayAll0 ds = true → PyData.hasDictAll ds = false
  | [], _ => rfl
  | d :: ds, h => by
    rw [PyData.canLayAll0, Bool.and_eq_true] at h
    rw [PyData.hasDictAll, nodict d h.1, nodictAll ds h.2]
    rfl
end
section
variable {G : GC} {P : Program} {wd : World} {base : Heap} {k : Nat} {X : Cx} {W : WX} {ok : Addr → Prop} {H : Hp}
theorem Op1.any {val : Value} {F : D → Option D}
    (h : ∀ (ok : Addr → Prop) (H : Hp) (dx d : D) (x : V) (Q : VK), DtB G ok H dx x → F dx = some d → (∀ v H', Ext H H' → Dt G ok H' d v → Q v H') → (∀ a, H a = none → ok a) → ∃ r, CallR X val r ∧ r [x] H Q) :
    Op1 G X W (fun u => call val [u]) (fun a w => RW.of (F a) w) := by
  rintro pins s σ H x u Q I rx ⟨Bd, ρ, w, dx, a, hx, q⟩
  cases e : F dx with
  | none => simp only [RW.of, e, RW.at] at q; exact q.elim
  | some d =>
    simp only [RW.of, e, RW.at] at q
    obtain ⟨r, h1, h2⟩ := h _ H dx d x Q hx e (fun v H' e r => PostE.next a q e r) fun b hb => fresh_ok a hb
    exact h1 pins s σ H [x] [u] Q I (.cons rx .nil) h2
/-! ### truth -/
def truD : D → Option Bool
  | .non => some false
  | .bl b => some b
  | .int i => some (i != 0)
  | .str s => some ((s.length : Int) != 0)
  | .lst ds => some (!ds.isEmpty)
  | .tup ds => some (!ds.isEmpty)
  | .dK ks _ => some (!ks.isEmpty)
  | _ => none
theorem emp_len {α β : Type} {xs : List α} {ys : List β} (h : xs.length = ys.length) : xs.isEmpty = ys.isEmpty := by
  cases xs <;> cases ys <;> first | rfl | (simp at h)
theorem tru_ok' (c : Cxy G P wd base k X W) : OpT G X truD := by
  intro pins s σ H x u Q ok d b I rx hx e q
  refine tru_ok pins s σ H x u Q I rx ⟨b, ?_, q⟩
  cases d <;> simp only [truD] at e <;> first | (cases e; done) | skip
  · cases e; cases (show x = V.non from hx); rfl
  · cases e; cases (show x = V.bl _ from hx); rfl
  · cases e; cases (show x = V.int _ from hx); rfl
  · cases e; cases (show x = V.str _ from hx.1); exact ⟨hx.2, rfl⟩
  · cases e
    obtain ⟨a, e1, xs, e2, e3⟩ := hx
    subst e1
    exact .inl ⟨xs, .inl (.inl e2), by rw [emp_len e3.length]⟩
  · cases e
    obtain ⟨a, xs, e1, e2, e3⟩ := hx
    subst e1
    exact .inr (.inl ⟨xs, by rw [c.K]; exact sqT_of e2, by rw [emp_len e3.length]⟩)
  · cases e
    obtain ⟨a, e1, us, e2, e3, e4⟩ := hx
    subst e1
    refine .inr (.inr ⟨us, e2, ?_⟩)
    rw [← e3]
    cases us <;> rfl
/-! ### negation -/
def negD : D → Option D
  | .int i => some (.int (-i))
  | _ => none
theorem neg_ok (c : Cxy G P wd base k X W) (pins : List (Addr × Obj)) (s : Shared) (σ : L2.St) (H : Hp) (x : V) (u : Value) (Q : VK) (I : Inv X pins σ H s) (rx : RelV x u) (h : Pure1 G negD x H Q) : wpAny (model X.prog X.w) X.A (unaryOp .USub u) (EP X pins σ Q) X.xe s := by
  obtain ⟨ok, d, e, hx, h1, _, q⟩ := h
  cases d <;> simp only [negD] at h1 <;> first | (cases h1; done) | skip
  cases h1
  cases (show x = V.int _ from hx)
  exact un_neg pins s σ H _ u Q I rx ⟨_, rfl, q _ H Ext.refl rfl⟩
/-! ### slices -/
def cutD {α : Type} (xs : List α) (lo hi : Option Int) : List α := (xs.drop (HT.sIx xs.length 0 lo)).take (HT.sIx xs.length xs.length hi - HT.sIx xs.length 0 lo)
def slcD (x : D) (lo hi : Option Int) : Option D := match x with
  | .str z => some (.str ⟨(cutD z.cps.toList lo hi).toArray⟩)
  | .lst ds => some (.lst (cutD ds lo hi))
  | .tup ds => some (.tup (cutD ds lo hi))
  | _ => none
theorem cut_D {ds : List D} {vs : List V} {lo hi : Option Int} (h : DtL G ok H ds vs) : DtL G ok H (cutD ds lo hi) (cutV vs lo hi) := by
  unfold cutD cutV
  rw [h.length]
  exact (h.drop _).take _
theorem cut_all {α : Type} {xs : List α} {lo hi : Option Int} (h : HT.sIx xs.length 0 lo = 0 ∧ HT.sIx xs.length xs.length hi = xs.length) : cutD xs lo hi = xs := by
  unfold cutD
  rw [h.1, h.2]
  simp
theorem slc_ok (c : Cxy G P wd base k X W) : SlR X (PureS G slcD) := by
  intro pins s σ H x v vl vu lo hi sl Q I rx hs pl pu h
  obtain ⟨ok, d, e, hx, h1, fr, q⟩ := h
  cases d <;> simp only [slcD] at h1 <;> first | (cases h1; done) | skip
  · cases h1
    rename_i z
    cases (show x = V.str _ from hx.1)
    refine sl_str pins s σ H _ v vl vu lo hi sl Q I rx hs pl pu ⟨z, rfl, hx.2, ?_⟩
    refine q _ H Ext.refl ⟨rfl, ?_⟩
    refine Nat.le_trans ?_ hx.2
    show (cutD z.cps.toList lo hi).toArray.size ≤ z.cps.size
    rw [List.size_toArray, ← Array.length_toList]
    unfold cutD
    rw [List.length_take, List.length_drop]
    omega
  · cases h1
    obtain ⟨a, e1, xs, e2, e3⟩ := hx
    exact sl_list pins s σ H x v vl vu lo hi sl Q I rx hs pl pu ⟨a, xs, e1, .inl (.inl e2), fun p hp => q _ _ (Ext.new hp) (dt_newL (cut_D e3) hp (fr p hp))⟩
  · cases h1
    rename_i ds
    obtain ⟨a, xs, e1, e2, e3⟩ := hx
    refine sl_tupA pins s σ H x v vl vu lo hi sl Q I rx hs pl pu ⟨a, xs, e1, by rw [c.K]; exact sqT_of e2, fun hw => ?_, fun _ p hp => q _ _ (Ext.new hp) (dt_newT (cut_D e3) hp)⟩
    rw [← e3.length] at hw
    have q' := q
    rw [cut_all hw] at q'
    exact q' _ H Ext.refl ⟨a, xs, rfl, e2, e3⟩
/-! ### len, str, int, tuple -/
def lenD : D → Option D
  | .str s => some (.int s.length)
  | .lst ds => some (.int ds.length)
  | .tup ds => some (.int ds.length)
  | .dK ks _ => some (.int ks.length)
  | .dT ks _ => some (.int ks.length)
  | _ => none
theorem cr_len_dK : CallR X (.builtin "len") (fun xs H Q => ∃ p kvs, xs = [.ref p] ∧ H p = some (.dK kvs) ∧ Q (.int ((kvs.length : Nat) : Int)) H) := by
  intro pins s σ H xs us Q I r h
  obtain ⟨p, kvs, rfl, hp, q⟩ := h
  obtain ⟨u, rfl, rx⟩ := vals1 r
  obtain rfl : u = .ref p := rx
  exact d_len I (.inl hp) fun t s' I' => ⟨.int ((kvs.length : Nat) : Int), H, I', ⟨_, rfl⟩, q⟩
theorem len_ok (c : Cxy G P wd base k X W) : Op1 G X W (fun u => call (.builtin "len") [u]) (fun a w => RW.of (lenD a) w) := by
  refine Op1.any fun ok H dx d x Q hx e q fr => ?_
  cases dx <;> simp only [lenD] at e <;> first | (cases e; done) | skip
  · cases e
    cases (show x = V.str _ from hx.1)
    exact ⟨_, call_len_str, _, rfl, hx.2, q _ H Ext.refl rfl⟩
  · cases e
    obtain ⟨a, e1, xs, e2, e3⟩ := hx
    subst e1
    refine ⟨_, call_len_seq, a, xs, rfl, .inl (.inl (.inl e2)), ?_⟩
    rw [← e3.length]
    exact q _ H Ext.refl rfl
  · cases e
    obtain ⟨a, xs, e1, e2, e3⟩ := hx
    subst e1
    refine ⟨_, call_len_seq, a, xs, rfl, .inr (by rw [c.K]; exact sqT_of e2), ?_⟩
    rw [← e3.length]
    exact q _ H Ext.refl rfl
  · cases e
    obtain ⟨a, e1, us, e2, e3, e4⟩ := hx
    subst e1
    refine ⟨_, cr_len_dK, a, us, rfl, e2, ?_⟩
    rw [show us.length = _ from by rw [← List.length_map (f := fun z : Key × V => z.1), e3]]
    exact q _ H Ext.refl rfl
  · cases e
    obtain ⟨a, e1, us, e2, e3, e4⟩ := hx
    subst e1
    refine ⟨_, call_len_dT, a, us, rfl, e2, ?_⟩
    rw [show us.length = _ from by rw [← List.length_map (f := fun z : List Key × V => z.1), e3]]
    exact q _ H Ext.refl rfl
def strD : D → Option D
  | .int i => if i.natAbs.log2 < 1920 then some (.str (toString i)) else none
  | .str s => some (.str s)
  | _ => none
theorem i64_len {i : Int} (h : i.natAbs.log2 < 1920) : (PySem.Str.ofString (toString i)).length ≤ sizeLine := by
  exact int_text_fits h
theorem str_ok (c : Cxy G P wd base k X W) : Op1 G X W (fun u => call (.type "str") [u]) (fun a w => RW.of (strD a) w) := by
  refine Op1.any fun ok H dx d x Q hx e q fr => ?_
  cases dx <;> simp only [strD] at e <;> first | (cases e; done) | skip
  · split at e
    · rename_i hi
      cases e
      cases (show x = V.int _ from hx)
      exact ⟨_, call_str_int, _, rfl, hi, q _ H Ext.refl ⟨rfl, i64_len hi⟩⟩
    · cases e
  · cases e
    cases (show x = V.str _ from hx.1)
    exact ⟨_, SkE.call_str_str, _, rfl, q _ H Ext.refl hx⟩
def intD1 : D → Option D
  | .int i => some (.int i)
  | .bl b => some (.int (if b then 1 else 0))
  | .str s => if s.length ≤ 640 then (match PySem.intText? s with | some n => some (.int n) | none => none) else none
  | _ => none
theorem int_ok (c : Cxy G P wd base k X W) : Op1 G X W (fun u => call (.type "int") [u]) (fun a w => RW.of (intD1 a) w) := by
  refine Op1.any fun ok H dx d x Q hx e q fr => ?_
  cases dx <;> simp only [intD1] at e <;> first | (cases e; done) | skip
  · cases e
    cases (show x = V.bl _ from hx)
    exact ⟨_, call_int1, .inr ⟨_, rfl, q _ H Ext.refl rfl⟩⟩
  · cases e
    cases (show x = V.int _ from hx)
    exact ⟨_, call_int1, .inl ⟨_, rfl, q _ H Ext.refl rfl⟩⟩
  · split at e
    · rename_i hl
      split at e
      · rename_i n hn
        cases e
        cases (show x = V.str _ from hx.1)
        exact ⟨_, call_int_str, _, n, rfl, hn, hl, q _ H Ext.refl rfl⟩
      · cases e
    · cases e
def tupD : D → Option D
  | .lst ds => some (.tup ds)
  | .tup ds => some (.tup ds)
  | _ => none
theorem tup_ok (c : Cxy G P wd base k X W) : Op1 G X W (fun u => call (.type "tuple") [u]) (fun a w => RW.of (tupD a) w) := by
  refine Op1.any fun ok H dx d x Q hx e q fr => ?_
  cases dx <;> simp only [tupD] at e <;> first | (cases e; done) | skip
  · cases e
    obtain ⟨a, e1, xs, e2, e3⟩ := hx
    subst e1
    exact ⟨_, call_tuple_of, a, xs, rfl, .inl ⟨.inl (.inl e2), fun p hp => q _ _ (Ext.new hp) (dt_newT e3 hp)⟩⟩
  · cases e
    obtain ⟨a, xs, e1, e2, e3⟩ := hx
    subst e1
    exact ⟨_, call_tuple_of, a, xs, rfl, .inr ⟨by rw [c.K]; exact sqT_of e2, q _ H Ext.refl ⟨a, xs, rfl, e2, e3⟩⟩⟩
/-! ### all, any -/
def blsD : List D → Option (List Bool)
  | [] => some []
  | .bl b :: ds => (blsD ds).map (b :: ·)
  | _ :: _ => none
theorem blsD_of : ∀ {ds : List D} {bs : List Bool} {vs : List V}, blsD ds = some bs → DtL G ok H ds vs → vs = bs.map V.bl
  | [], bs, vs, h, r => by
    cases h
    rw [show vs = [] from r]
    rfl
  | d :: ds, bs, vs, h, r => by
    obtain ⟨v, us, e1, e2, e3⟩ := r
    subst e1
    cases d <;> simp only [blsD] at h <;> first | (cases h; done) | skip
    obtain ⟨k', h1, h2⟩ := Option.map_eq_some_iff.mp h
    subst h2
    rw [blsD_of h1 e3, show v = _ from e2]
    rfl
def allD : D → Option D
  | .lst ds => (blsD ds).map fun bs => .bl (bs.all id)
  | _ => none
def anyD : D → Option D
  | .lst ds => (blsD ds).map fun bs => .bl (bs.any id)
  | _ => none
theorem all_ok (c : Cxy G P wd base k X W) : Op1 G X W (fun u => call (.builtin "all") [u]) (fun a w => RW.of (allD a) w) := by
  refine Op1.any fun ok H dx d x Q hx e q fr => ?_
  cases dx <;> simp only [allD] at e <;> first | (cases e; done) | skip
  obtain ⟨bs, h1, h2⟩ := Option.map_eq_some_iff.mp e
  subst h2
  obtain ⟨a, e1, xs, e2, e3⟩ := hx
  subst e1
  rw [blsD_of h1 e3] at e2
  exact ⟨_, cr_all c.calm, a, bs, rfl, .inl (.inl e2), q _ H Ext.refl rfl⟩
theorem any_ok (c : Cxy G P wd base k X W) : Op1 G X W (fun u => call (.builtin "any") [u]) (fun a w => RW.of (anyD a) w) := by
  refine Op1.any fun ok H dx d x Q hx e q fr => ?_
  cases dx <;> simp only [anyD] at e <;> first | (cases e; done) | skip
  obtain ⟨bs, h1, h2⟩ := Option.map_eq_some_iff.mp e
  subst h2
  obtain ⟨a, e1, xs, e2, e3⟩ := hx
  subst e1
  rw [blsD_of h1 e3] at e2
  exact ⟨_, cr_any c.calm, a, bs, rfl, .inl (.inl e2), q _ H Ext.refl rfl⟩
/-! ### repr -/
def reprD (x : D) : Option D := match x.py with
  | some p => if p.showable && SeqAt.shaped p && decide (p.shown.length ≤ lim) then some (.str p.shown) else none
  | none => none
theorem cr_repr (hg : X.A.guards = some []) (hu : X.A.units + 70 < cLine) : CallR X (.builtin "repr") (fun xs H Q => ∃ x p, xs = [x] ∧ Dp X.K H x p ∧ p.showable = true ∧ SeqAt.shaped p = true ∧ p.shown.length ≤ sizeLine ∧ Q (.str p.shown) H) := by
  intro pins s σ H xs us Q I r h
  obtain ⟨x, p, rfl, hp, hs, sh, hl, q⟩ := h
  obtain ⟨u, rfl, rx⟩ := vals1 r
  obtain ⟨as, rd⟩ := Dp.reads I p x u hp rx
  simp only [SeqAt.shaped, Bool.and_eq_true, decide_eq_true_eq] at sh
  have nd : p.hasDict = true → sysModules ∉ as := fun hd => by
    exfalso
    revert hd
    rw [nodict p sh.1]
    simp
  have fin : ∀ (s' : Shared) (t : Tok), Inv X pins σ H s' → EP X pins σ Q (.str p.shown t) s' := fun s' t I' => ⟨.str p.shown, H, I', ⟨t, rfl⟩, q⟩
  cases hp with
  | non =>
    cases (show u = Value.none from rx)
    exact PySem.P.repr_of_none (fin _ _ (I.tok _))
  | bl b =>
    cases (show u = Value.bool b from rx)
    exact PySem.P.repr_of_bool (fin _ _ (I.tok _))
  | int i =>
    obtain ⟨t, rfl⟩ := (show ∃ t, u = Value.int i t from rx)
    exact PySem.P.repr_of_int (by simpa [PyData.showable] using hs) (fin _ _ (I.tok _))
  | str z =>
    obtain ⟨t, rfl⟩ := (show ∃ t, u = Value.str z t from rx)
    exact PySem.P.repr_of_str (fin _ _ (I.tok _)) hl
  | lst h1 h2 =>
    cases (show u = Value.ref _ from rx)
    exact PySem.repr_of_reads' rd hs nd hg (by omega) (fun _ _ e => e) (fun h' t tk kp => fin _ _ (I.kept kp)) hl
  | tup h1 h2 =>
    cases (show u = Value.ref _ from rx)
    exact PySem.repr_of_reads' rd hs nd hg (by omega) (fun _ _ e => e) (fun h' t tk kp => fin _ _ (I.kept kp)) hl
theorem repr_ok (c : Cxy G P wd base k X W) : Op1 G X W (fun u => call (.builtin "repr") [u]) (fun a w => RW.of (reprD a) w) := by
  refine Op1.any fun ok H dx d x Q hx e q fr => ?_
  have hu := c.room.un
  unfold reprD at e
  split at e
  · rename_i p hp
    split at e
    · rename_i hz
      cases e
      simp only [Bool.and_eq_true, decide_eq_true_eq, lim_eq] at hz
      exact ⟨_, cr_repr c.gd (by omega), x, p, rfl, by rw [c.K]; exact hx.dp hp, hz.1.1, hz.1.2, hz.2, q _ H Ext.refl ⟨rfl, hz.2⟩⟩
    · cases e
  · cases e
end
end DL
set_option maxRecDepth 100000
set_option maxHeartbeats 4000000
set_option linter.all false
namespace DL
open PySem PySem.Spec PyProof.Rows L2
/-! ### sorted -/
def isT1 : PyData → Bool | .tuple (_ :: _) => true | _ => false
def isTN : PyData → Bool | .tuple _ => true | .none => true | _ => false
def sortB (ps : List PyData) : Bool := (ps.all fun p => SeqAt.shaped p && ps.all fun q => PySem.W.alike p q) && (ps.all isT1 || ps.all fun p => !isTN p)
def sortD (ds : List D) (ps : List PyData) : List D := ((ds.zip ps).mergeSort (PySem.W.dataLe false Prod.snd)).map Prod.fst
theorem sortB_of {ps : List PyData} (h : sortB ps = true) : PySem.W.AllAlike ps ∧ PySem.W.Sortable ps ∧ ∀ p ∈ ps, p.depth ≤ 64 := by
  simp only [sortB, Bool.and_eq_true, List.all_eq_true] at h
  obtain ⟨h1, h2⟩ := h
  refine ⟨fun p hp q hq => (h1 p hp).2 q hq, ?_, fun p hp => ?_⟩
  · rw [Bool.or_eq_true] at h2
    rcases h2 with h2 | h2
    · refine .inl fun p hp => ?_
      have z := List.all_eq_true.mp h2 p hp
      cases p <;> simp only [isT1] at z <;> first | (cases z; done) | skip
      rename_i xs
      cases xs with
      | nil => cases z
      | cons x r => exact ⟨x, r, rfl⟩
    · refine .inr fun p hp => ?_
      have z := List.all_eq_true.mp h2 p hp
      exact ⟨fun e => by (subst e; cases z), fun xs e => by (subst e; cases z)⟩
  · have z := (h1 p hp).1
    simp only [SeqAt.shaped, Bool.and_eq_true, decide_eq_true_eq] at z
    exact z.2
section
variable {G : GC} {P : Program} {wd : World} {base : Heap} {k : Nat} {X : Cx} {W : WX} {ok : Addr → Prop} {H : Hp}
/-- a value beside its data -/
def RB (G : GC) (ok : Addr → Prop) (H : Hp) (v : Value) (b : D × PyData) : Prop := ∃ x : V, RelV x v ∧ Dt G ok H b.1 x
theorem zip_snd {α β : Type} : ∀ {as : List α} {bs : List β}, as.length = bs.length → (as.zip bs).map Prod.snd = bs
  | [], [], _ => rfl
  | a :: as, b :: bs, h => by rw [List.zip_cons_cons, List.map_cons, zip_snd (by simpa using h)]
  | [], _ :: _, h => by simp at h
  | _ :: _, [], h => by simp at h
theorem pys_len : ∀ {ds : List D} {ps : List PyData}, D.pys ds = some ps → ds.length = ps.length
  | [], ps, h => by rw [D.pys] at h; cases h; rfl
  | d :: ds, ps, h => by
    rw [D.pys] at h
    cases e1 : D.py d with
    | none => rw [e1] at h; cases h
    | some p =>
      cases e2 : D.pys ds with
      | none => rw [e1, e2] at h; cases h
      | some qs =>
        rw [e1, e2] at h
        cases h
        rw [List.length_cons, List.length_cons, pys_len e2]
theorem each_of (hK : G.K = X.K) {pins : List (Addr × Obj)} {σ : L2.St} {s : Shared} (I : Inv X pins σ H s) : ∀ {ds : List D} {ps : List PyData} {xs : List V} {vs : List Value}, D.pys ds = some ps → DtL G ok H ds xs → Vals xs vs →
    PySem.W.EachIs (RB G ok H) vs (ds.zip ps) ∧ PySem.W.EachIs (fun v d => ∃ as, Reads s.heap v d as) vs ps
  | [], ps, xs, vs, h, dl, r => by
    rw [D.pys] at h
    cases h
    rw [show xs = [] from dl] at r
    cases r
    exact ⟨.nil, .nil⟩
  | d :: ds, ps, xs, vs, h, dl, r => by
    obtain ⟨x, ys, e1, e2, e3⟩ := dl
    subst e1
    rw [D.pys] at h
    cases h1 : D.py d with
    | none => rw [h1] at h; cases h
    | some p =>
      cases h2 : D.pys ds with
      | none => rw [h1, h2] at h; cases h
      | some qs =>
        rw [h1, h2] at h
        cases h
        cases r with
        | cons r1 r2 =>
          obtain ⟨q1, q2⟩ := each_of hK I h2 e3 r2
          refine ⟨.cons ⟨x, r1, e2⟩ q1, .cons ?_ q2⟩
          exact Dp.reads I p x _ (by rw [← hK]; exact Dt.dp d x p e2 h1) r1
theorem each_back : ∀ {vs : List Value} {bs : List (D × PyData)}, PySem.W.EachIs (RB G ok H) vs bs → ∃ ys, Vals ys vs ∧ DtL G ok H (bs.map Prod.fst) ys
  | _, _, .nil => ⟨[], .nil, rfl⟩
  | _, _, .cons h t => by
    obtain ⟨ys, h1, h2⟩ := each_back t
    obtain ⟨x, h3, h4⟩ := h
    exact ⟨x :: ys, .cons h3 h1, .cons h4 h2⟩
theorem sorted_tail (hK : G.K = X.K) {A : Around} {E : Value → Shared → Prop} {pins : List (Addr × Obj)} {σ : L2.St} {s1 : Shared} {Q : VK} {ds : List D} {ps : List PyData} {xs : List V} {vs : List Value} (I1 : Inv X pins σ H s1) (rv : Vals xs vs) (dl : DtL G ok H ds xs) (hp : D.pys ds = some ps) (hs : sortB ps = true)
    (hu : A.units + 70 < cLine) (hz : xs.length ≤ sizeLine) (q : ∀ p ys, H p = none → DtL G ok H (sortD ds ps) ys → Q (.ref p) (upd H p (.lst ys))) :
    wpAny (model X.prog X.w) A (do let l ← newList vs; let _ ← holding [l] (call (.builtin "list.sort") [l] []); ret l) (fun fin s' => ∃ v, fin = .done (.ret v) ∧ EP X pins σ Q v s') E s1 := by
  obtain ⟨hal, hk, hd⟩ := sortB_of hs
  have hvl : vs.length ≤ sizeLine := by rw [← rv.length]; exact hz
  refine wpAny_bind (wpAny_newList ?_ hvl)
  have hoL : (s1.heap.push (seqObj "list" vs.toArray 0)).get? s1.heap.objs.size = some (seqObj "list" vs.toArray 0) := Heap.get?_push_size _ rfl
  show wpAny _ _ _ _ _ { s1 with heap := s1.heap.push (seqObj "list" vs.toArray 0) }
  obtain ⟨e1, e2⟩ := each_of hK I1 hp dl rv
  have hlen := pys_len hp
  have hm : (ds.zip ps).map Prod.snd = ps := zip_snd hlen
  have e3 : PySem.W.EachIs (fun v (b : D × PyData) => ∃ as, Reads (PySem.W.sortingHeap (s1.heap.push (seqObj "list" vs.toArray 0)) s1.heap.objs.size vs) v b.2 as) vs (ds.zip ps) := by
    rw [← hm] at e2
    have gen : ∀ {bs : List (D × PyData)} {us : List Value}, PySem.W.EachIs (fun v d => ∃ as, Reads s1.heap v d as) us (bs.map Prod.snd) → PySem.W.EachIs (fun v (b : D × PyData) => ∃ as, Reads (PySem.W.sortingHeap (s1.heap.push (seqObj "list" vs.toArray 0)) s1.heap.objs.size vs) v b.2 as) us bs := by
      intro bs
      induction bs with
      | nil => intro us h; cases h; exact .nil
      | cons b bs ih =>
        intro us h
        cases h with
        | cons h t =>
          obtain ⟨as, r⟩ := h
          refine .cons ⟨as, PyProof.Rows.Reads.keeps (fun c o hc => ?_) r⟩ (ih t)
          have hlt := Heap.lt_size hc
          exact PySem.W.sortingHeap_old (Nat.ne_of_lt hlt) (Heap.get?_push_of_some _ hc)
    exact gen e2
  refine wpAny_bind (wpAny_holding (wpAny_call_entry PyProof.Rows.slot_list_sort ⟨_, hoL, rfl⟩ PyProof.Rows.entry_list_sort
    (PySem.W.list_sort_vals (κ := PySem.W.dataKind (PySem.W.sortingHeap (s1.heap.push (seqObj "list" vs.toArray 0)) s1.heap.objs.size vs) ((ds.zip ps).map Prod.snd)) (s := { s1 with heap := s1.heap.push (seqObj "list" vs.toArray 0) }) hoL
      (PySem.W.SortsAt.data (s := { s1 with heap := PySem.W.sortingHeap (s1.heap.push (seqObj "list" vs.toArray 0)) s1.heap.objs.size vs }) (PySem.W.each_map (R := fun v d => ∃ as, Reads (PySem.W.sortingHeap (s1.heap.push (seqObj "list" vs.toArray 0)) s1.heap.objs.size vs) v d as) Prod.snd e3) (by rw [hm]; exact hal) (by rw [hm]; exact hk) (fun d hd' => ?_)) hvl ⟨_, rfl, ?_⟩)
    (PyProof.Rows.args_list_sort _)))
  · rw [hm] at hd'
    have := hd d hd'
    show A.units + 1 + d.depth < cLine
    omega
  · have e5 := PySem.W.sortVals_data false e1 e3 (by rw [hm]; exact hal)
    obtain ⟨ys, r1, d1⟩ := each_back e5
    obtain ⟨ep, he'⟩ := PyProof.Rows.sortedHeap_at (vs := vs) (out := (PySem.W.sortVals (PySem.W.dataKind (PySem.W.sortingHeap (s1.heap.push (seqObj "list" vs.toArray 0)) s1.heap.objs.size vs) ((ds.zip ps).map Prod.snd)) false vs vs).toArray) hoL
    have hyl : ys.length ≤ sizeLine := by
      rw [← d1.length, List.length_map, List.length_mergeSort, List.length_zip, hlen, Nat.min_self, ← hlen, dl.length]
      exact hz
    refine wpAny_pure ⟨_, rfl, .ref s1.heap.objs.size, upd H s1.heap.objs.size (.lst ys), I1.laid (t' := s1.toks) (fun b u e => ?_) (Nat.le_refl _)
      (show ObjOk X.prog X.w _ _ _ (.lst ys) from ⟨hyl, _, ep, r1, he'⟩), rfl, q _ ys (I1.hok.fresh (Nat.le_refl _)) d1⟩
    have hb : b < s1.heap.objs.size := Heap.lt_size e
    rw [PyProof.Rows.sortedHeap_old (Nat.ne_of_lt hb) (by rw [size_push']; exact Nat.lt_succ_of_lt hb)]
    exact Heap.get?_push_of_some _ e
end
end DL
set_option maxRecDepth 100000
set_option maxHeartbeats 4000000
set_option linter.all false
namespace DL
open PySem PySem.Spec PyProof.Rows L2
/-! ### sorted(x), list(x): new lists -/
def keyK : Key → D | .inl i => .int i | .inr s => .str s
def keyFit : Key → Bool | .inl _ => true | .inr s => decide (s.length ≤ lim)
def sortL (ds : List D) : Option D := match D.pys ds with
  | some ps => if sortB ps && decide (ds.length ≤ lim) then some (.lst (sortD ds ps)) else none
  | none => none
def sortedD : D → Option D
  | .lst ds => sortL ds
  | .dK ks _ => if ks.all keyFit then sortL (ks.map keyK) else none
  | .dT ks _ => if ks.all (fun k => k.all keyFit) then sortL (ks.map fun k => .tup (k.map keyK)) else none
  | _ => none
section
variable {G : GC} {P : Program} {wd : World} {base : Heap} {k : Nat} {X : Cx} {W : WX} {ok : Addr → Prop} {H : Hp}
theorem own_newL {ds : List D} {ys : List V} {p : Addr} (h : DtL G ok H ds ys) (hp : H p = none) : OwD G (fun b => ok b ∧ b ≠ p) (upd H p (.lst ys)) (.lst ds) p :=
  ⟨ys, upd_same, h.mono (fun b o kk e => ⟨⟨kk, fun z => by rw [z, hp] at e; cases e⟩, Ext.new hp b o e⟩) fun b xs e => Ext.new hp b _ e⟩
theorem dt_key {k : Key} (h : keyFit k = true) : Dt G ok H (keyK k) (kV k) := by
  cases k with
  | inl i => exact rfl
  | inr s =>
    refine ⟨rfl, ?_⟩
    rw [← lim_eq]
    simpa [keyFit] using h
theorem dt_keys : ∀ {ks : List Key}, ks.all keyFit = true → DtL G ok H (ks.map keyK) (ks.map kV)
  | [], _ => rfl
  | k :: ks, h => by
    rw [List.all_cons, Bool.and_eq_true] at h
    exact .cons (dt_key h.1) (dt_keys h.2)
theorem dt_tkeys : ∀ {kvs : List (List Key × V)} {bs : List Addr}, IsKeys H kvs bs → (kvs.map (·.1)).all (fun k => k.all keyFit) = true → DtL G ok H ((kvs.map (·.1)).map fun k => D.tup (k.map keyK)) (bs.map V.ref)
  | _, _, .nil, _ => rfl
  | _, _, .cons h t, z => by
    rw [List.map_cons, List.all_cons, Bool.and_eq_true] at z
    exact .cons ⟨_, _, rfl, .inl h, dt_keys z.1⟩ (dt_tkeys t z.2)
/-- the keys of a dict, in a row -/
theorem keys_row (c : Cxy G P wd base k X W) {A : Around} (hh : A.handled = none) {E : Value → Shared → Prop} {pins : List (Addr × Obj)} {σ : L2.St} {s : Shared} {a : Addr} {ds : List D} {R : List Value → Shared → Prop} (I : Inv X pins σ H s)
    (hd : (∃ kvs, H a = some (.dK kvs) ∧ (kvs.map (·.1)).all keyFit = true ∧ ds = (kvs.map (·.1)).map keyK) ∨ ∃ kvs, H a = some (.dT kvs) ∧ (kvs.map (·.1)).all (fun k => k.all keyFit) = true ∧ ds = (kvs.map (·.1)).map fun k => D.tup (k.map keyK))
    (h : ∀ s1 xs vs, Inv X pins σ H s1 → Vals xs vs → DtL G ok H ds xs → xs.length ≤ sizeLine → R vs s1) : wpAny (model X.prog X.w) A (collect (.ref a)) R E s := by
  rcases hd with ⟨kvs, hd, hf, rfl⟩ | ⟨kvs, hd, hf, rfl⟩
  · obtain ⟨z, lo, vs, rel, dd⟩ := dk_of I.hok hd
    obtain ⟨ep, hat⟩ := dd.dictAt
    have ek : (kvs.map (·.1)).map kV = vs.map fun p => kV p.1 := by
      have e := congrArg (List.map kV) rel.keys
      rw [e, List.map_map]
      rfl
    refine PySem.W.kdu_collect (A := A) (PySem.W.kdl_dict (knd := mixKind X.prog X.w) (kvs := vs) (ep := ep) lo) hh hat (by rw [← rel.length]; exact z) fun h' tk acc hk hacc => ?_
    have hv : Vals (vs.map fun p => kV p.1) acc.toList := keys_at (by rw [Array.length_toList]; exact hacc.1) fun j v e => hacc.2 j v (by rw [← Array.getElem?_toList]; exact e)
    refine h _ _ _ (I.kept hk) hv ?_ ?_
    · rw [← ek]
      exact dt_keys hf
    · rw [← ek, List.length_map, List.length_map]
      exact z
  · obtain ⟨z, hs, ks, pr, o, es, ep, ho, hx, hdt, he, hn⟩ := (show ObjOk X.prog X.w H s.heap a (.dT kvs) from I.hok a _ hd)
    have l1 : es.size = ks.length := size_of_entries he
    have l2 : kvs.length = ks.length := Paired.length pr
    refine PySem.W.kdu_collect (A := A) (kdl_raw hs hx hdt) hh ho (by omega) fun h' tk acc' kp it => ?_
    have ea : acc'.toList = ks.map fun x => Value.ref x.2.1 := by
      have hl : acc'.toList.length = ks.length := by rw [Array.length_toList, it.1]; exact l1
      apply List.ext_getElem?
      intro j
      rw [List.getElem?_map]
      cases hj : acc'.toList[j]? with
      | none =>
        have h1 := List.getElem?_eq_none_iff.mp hj
        rw [List.getElem?_eq_none (by omega)]
        all_goals rfl
      | some v =>
        obtain ⟨en, hen, hv⟩ := it.2 j v (by rw [← Array.getElem?_toList]; exact hj)
        have qe := entry_at he j
        rw [hen] at qe
        cases hb : ks[j]? with
        | none =>
          rw [hb] at qe
          exact nomatch (show some en = none from qe)
        | some b =>
          rw [hb] at qe
          have e2 : en = entryOfKey (tupleKind (mixKind X.prog X.w)) b := Option.some.inj qe
          rw [hv, e2]
          all_goals rfl
    have eb : acc'.toList = (ks.map fun x => x.2.1).map Value.ref := by rw [ea, List.map_map]; all_goals rfl
    refine h _ ((ks.map fun x => x.2.1).map V.ref) _ (I.kept kp) (by rw [eb]; exact vals_refs _) (dt_tkeys (isKeys_of pr) hf) ?_
    rw [List.length_map, List.length_map]
    omega
/-- the items of a list, in a row -/
theorem list_row {A : Around} {E : Value → Shared → Prop} {pins : List (Addr × Obj)} {σ : L2.St} {s : Shared} {a : Addr} {xs : List V} {R : List Value → Shared → Prop} (I : Inv X pins σ H s) (hd : SqL X.K H a xs)
    (h : ∀ s1 vs, Inv X pins σ H s1 → Vals xs vs → xs.length ≤ sizeLine → R vs s1) : wpAny (model X.prog X.w) A (collect (.ref a)) R E s := by
  obtain ⟨its, rv, hl, hz⟩ := I.list hd
  refine PyProof.Rows.collect_list (vs := its) hl.isList (h _ its (I.kept (t' := s.toks) fun b o e => ?_) rv hz) (by rw [← rv.length]; exact hz)
  have hb := Heap.lt_size e
  rw [Heap.get?_update_ne _ _ _ _ (Nat.ne_of_lt hb)]
  exact Heap.get?_push_of_some _ e
theorem sorted_ok (c : Cxy G P wd base k X W) : CallR X (.builtin "sorted") fun xs H Q => ∃ x, xs = [x] ∧ PureF G sortedD x H Q := by
  intro pins s σ H xs us Q I r h
  obtain ⟨x, rfl, ok, d, e, hx, h1, fr, q⟩ := h
  obtain ⟨u, rfl, rx⟩ := vals1 r
  have hu := c.room.un
  have hh : X.A.in1.handled = none := I.ok.hd c.calm
  have fin : ∀ {ds : List D}, sortL ds = some e → ∀ {s1 : Shared} {xs : List V} {vs : List Value}, Inv X pins σ H s1 → Vals xs vs → DtL G ok H ds xs → xs.length ≤ sizeLine →
      wpAny (model X.prog X.w) X.A.in1 (do let l ← newList vs; let _ ← holding [l] (call (.builtin "list.sort") [l] []); ret l) (fun fin s' => ∃ v, fin = .done (.ret v) ∧ EP X pins σ Q v s') X.xe s1 := by
    intro ds e1 s1 xs vs I1 rv dl hz
    unfold sortL at e1
    split at e1
    · rename_i ps hp
      split at e1
      · rename_i hc
        cases e1
        rw [Bool.and_eq_true] at hc
        exact sorted_tail c.K.symm I1 rv dl hp hc.1 (by show X.A.units + 1 + 70 < cLine; omega) hz fun p ys hn dy => q p _ hn (Ext.new hn) (own_newL dy hn)
      · cases e1
    · cases e1
  have go : ∀ {a : Addr}, u = .ref a → wpAny (model X.prog X.w) X.A.in1 (collect (.ref a)) (fun vs s1 => wpAny (model X.prog X.w) X.A.in1 (do let l ← newList vs; let _ ← holding [l] (call (.builtin "list.sort") [l] []); ret l) (fun fin s' => ∃ v, fin = .done (.ret v) ∧ EP X pins σ Q v s') X.xe s1) X.xe s →
      wpAny (model X.prog X.w) X.A (call (.builtin "sorted") [u]) (EP X pins σ Q) X.xe s := by
    intro a eu hw
    subst eu
    refine Calls.call_function_entry PyProof.Rows.kind_sorted PyProof.Rows.plain_sorted PyProof.Rows.entry_sorted (PyProof.Rows.args_sorted1 _) ?_
    unfold Builtin.«sorted»
    refine wpAny_bind (m := checkCount "sorted" 1 1 _) (wpAny_pure ?_)
    exact wpAny_bind hw
  cases d <;> simp only [sortedD] at h1 <;> first | (cases h1; done) | skip
  · obtain ⟨a, e1, ys, e2, e3⟩ := hx
    subst e1
    exact go rx (list_row I (.inl (.inl e2)) fun s1 vs I1 rv hz => fin h1 I1 rv e3 hz)
  · split at h1
    · rename_i hf
      obtain ⟨a, e1, kvs, e2, e3, e4⟩ := hx
      subst e1
      refine go rx (keys_row c hh I (.inl ⟨kvs, e2, by rw [e3]; exact hf, rfl⟩) fun s1 ys vs I1 rv dl hz => fin (by rw [e3]; exact h1) I1 rv dl hz)
    · cases h1
  · split at h1
    · rename_i hf
      obtain ⟨a, e1, kvs, e2, e3, e4⟩ := hx
      subst e1
      refine go rx (keys_row c hh I (.inr ⟨kvs, e2, by rw [e3]; exact hf, rfl⟩) fun s1 ys vs I1 rv dl hz => fin (by rw [e3]; exact h1) I1 rv dl hz)
    · cases h1
end
end DL
set_option maxRecDepth 100000
set_option maxHeartbeats 4000000
set_option linter.all false
namespace DL
open PySem PySem.Spec PyProof.Rows L2
section
variable {G : GC} {P : Program} {wd : World} {base : Heap} {k : Nat} {X : Cx} {W : WX} {ok : Addr → Prop} {H : Hp}
theorem PostE.qmono {rel : RelD} {Bd : Addr → Prop} {ρ : En} {σ : L2.St} {r : R D} {Q Q' : VK} (hq : ∀ v H', Q v H' → Q' v H') (h : PostE G W rel Bd ρ σ H r Q) : PostE G W rel Bd ρ σ H r Q' := by
  cases r with
  | ok d ρ1 w1 => exact fun v H' a b c d e => hq _ _ (h v H' a b c d e)
  | exc x ρ1 w1 => exact h
  | stuck => exact h
/-! ### methods of built-in values -/
theorem mth_split {kd : Nat} {a : PX} {fa : En → DW → R D} {fb : En → DW → R (List D)} {k : D → List D → En → DW → R D} {σ : L2.St} {Q : VK} {Ty : V → Hp → Prop} {N : V → List V → Hp → Prop} (hty : ∀ ok H d0 x, DtB G ok H d0 x → kindD d0 = kd → Ty x H)
    (hk : ∀ Bd ρ w d ds x ys H2, At G Bd ρ w σ H2 → DtB G (okA Bd (owns ρ σ)) H2 d x → DtL G (okA Bd (owns ρ σ)) H2 ds ys → PostE G W (Dt G) Bd ρ σ H2 (k d ds ρ w) Q → N x ys H2)
    (h : tD G W (twoL kd a fa fb k) σ H Q) : tA G W a fa σ H fun x H1 => Ty x H1 ∧ tDL G W fb σ H1 fun ys H2 => N x ys H2 := by
  obtain ⟨Bd, ρ, w, at_, q⟩ := h
  unfold tA
  unfold twoL at q
  cases e1 : a.ix with
  | none =>
    rw [e1] at q
    refine ⟨Bd, ρ, w, at_, PostE.bind at_ q fun d ρ1 w1 v H1 m r q1 => ?_⟩
    by_cases hc : kindD d = kd
    · simp only [hc, if_true] at q1
      refine ⟨hty _ _ d v r.toB hc, Bd, ρ1, w1, m.at_, PostE.bindL m.at_ q1 fun ds ρ2 w2 ys H2 m2 r2 q2 => ?_⟩
      exact hk Bd ρ2 w2 d ds v ys H2 m2.at_ (Dt.carry m.at_.bd m2.stp (fun a ha => .inl (m2.sub a ha)) r).toB r2 q2
    · simp only [hc, if_false] at q1
      exact q1.elim
  | some i =>
    rw [e1] at q
    cases e0 : rd ρ i with
    | none => simp only [e0, kindO] at q; exact q.elim
    | some d0 =>
      simp only [e0, kindO, Option.some.injEq] at q
      by_cases hc : kindD d0 = kd
      · simp only [hc, if_true] at q
        obtain ⟨v, hv, hd⟩ := slot_b at_ e0
        refine ⟨v, hv, hty _ _ d0 v hd hc, Bd, ρ, w, at_, PostE.bindL at_ q fun ds ρ1 w1 ys H1 m r q1 => ?_⟩
        cases e2 : rd ρ1 i with
        | none => simp only [e2] at q1; exact q1.elim
        | some d2 =>
          simp only [e2] at q1
          obtain ⟨v', h1, h2⟩ := slot_b m.at_ e2
          rw [hv] at h1
          cases h1
          exact hk Bd ρ1 w1 d2 ds v ys H1 m.at_ h2 r q1
      · simp only [hc, if_false] at q
        exact q.elim
theorem base_of {o : Expr} {name : Str} {env : Env} (hc : notCall o = true) : attributeBase o name env (eval o env) = eval o env := attr_plain hc _
theorem few_of {env : Env} {cpos : Pos} {es : List Expr} (hs : es.all notStar = true) (hl : es.length < 9) :
    ((backTo cpos (starEach es env)).all (fun x => !x.1) && (backToKw cpos (keywordEach [] env)).all (fun x => x.1.isSome) && decide (es.length + ([] : List Keyword).length + (if ([] : List Keyword).isEmpty then 0 else 1) < 30)) = true := by
  have h1 : (backTo cpos (starEach es env)).all (fun x => !x.1) = true := by
    have := args_plain hs cpos env
    rw [← Bool.not_eq_true, List.any_eq_true] at this
    rw [List.all_eq_true]
    intro x hx
    cases hb : x.1 with
    | false => rfl
    | true => exact absurd ⟨x, hx, hb⟩ this
  rw [h1]
  have h2 : (backToKw cpos (keywordEach [] env)).all (fun x => x.1.isSome) = true := by rfl
  rw [h2]
  simp only [Bool.true_and, decide_eq_true_eq]
  show es.length + 0 + 0 < 30
  omega
theorem mth_rule {T id : String} {name : Str} {kd : Nat} {F : D → List D → Option D} (pa : PlainAttrs T) (slot : Slot T name id) (hty : typeOf (.builtin id) = pure (.type "method_descriptor")) (ty : ∀ ok H d0 x, DtB G ok H d0 x → kindD d0 = kd → tyV X.K T x H)
    (hm : ∀ (ok : Addr → Prop) (H : Hp) (d : D) (ds : List D) (e : D) (x : V) (xs : List V) (Q : VK), DtB G ok H d x → DtL G ok H ds xs → F d ds = some e → (∀ a, H a = none → ok a) → (∀ v H', Ext H H' → Dt G ok H' e v → Q v H') → ∃ r, MtR X id r ∧ r x xs H Q) : MthOk G X W name kd F := by
  intro o apos es cpos po fo fs hc hline hlen ho hs
  have hm' : MtR X id (Pure2 G F) := by
    rintro pins s σ H x xs v us Q I rx rs ⟨ok, d, ds, e, h1, h2, h3, h4, h5⟩
    obtain ⟨r, h6, h7⟩ := hm ok H d ds e x xs Q h1 h2 h3 h4 h5
    exact h6 pins s σ H x xs v us Q I rx rs h7
  have fin : ∀ {σ : L2.St} {H : Hp} {Q : VK}, tD G W (mthD (some (kd, F)) po fo (seqL fs)) σ H Q → tA G W po fo σ H fun x H1 => tyV X.K T x H1 ∧ tDL G W (seqL fs) σ H1 fun ys H2 => Pure2 G F x ys H2 Q := by
    intro σ H Q h
    refine mth_split (Ty := tyV X.K T) (fun ok H d0 x => ty ok H d0 x) (fun Bd ρ w d ds x ys H2 a hx hys q => ?_) (h : tD G W (twoL kd po fo (seqL fs) fun x ds ρ w => R.of (F x ds) ρ w) σ H Q)
    cases e : F d ds with
    | none => simp only [e, R.of] at q; exact q.elim
    | some z =>
      simp only [e, R.of] at q
      exact ⟨_, d, ds, z, hx, hys, e, fun b hb => fresh_ok a hb, fun v H' ex r => PostE.next a q ex r⟩
  cases hs with
  | nil =>
    refine PE.weak (pe_bm0 pa slot hty hm' ho (base_of hc) hline) fun σ H Q h => ?_
    have z := fin h
    unfold tBM0
    unfold tA at z ⊢
    have out : ∀ x H1, (tyV X.K T x H1 ∧ tDL G W (seqL []) σ H1 fun ys H2 => Pure2 G F x ys H2 Q) → tyV X.K T x H1 ∧ Pure2 G F x [] H1 Q := by
      rintro x H1 ⟨h1, Bd, ρ, w, a, q⟩
      exact ⟨h1, q [] H1 Stp.refl a.en (fun _ h => h) a.dk rfl⟩
    cases e1 : po.ix with
    | some i =>
      rw [e1] at z
      obtain ⟨v, h1, h2⟩ := z
      exact ⟨v, h1, out _ _ h2⟩
    | none =>
      rw [e1] at z
      obtain ⟨Bd, ρ, w, a, q⟩ := z
      exact ⟨Bd, ρ, w, a, PostE.qmono (fun v H' h => out v H' h) q⟩
  | cons he hst r =>
    have hst' := (PEs.cons he hst r).stars
    have h2 := hst'
    simp only [List.all_cons, Bool.and_eq_true] at h2
    exact PE.weak (pe_bm pa slot hty hm' ho (pa_of (.cons he hst r)) (base_of hc) (few_of hst' hlen) hline (starEach_of hst _ _) (args_plain h2.2 _ _)) fun σ H Q h => fin h
/-! ### methods that change a named object -/
/-- what is changed, what is answered -/
def Mut1 (G : GC) (F : D → List D → Option (D × D)) (x : V) (xs : List V) (H : Hp) (Q : VK) : Prop := ∃ (a : Addr) (ok : Addr → Prop) (d : D) (ds : List D) (d' r : D), x = .ref a ∧ OwD G ok H d a ∧ ¬ ok a ∧ DtL G ok H ds xs ∧ F d ds = some (d', r) ∧
  ∀ v (o : HO), OwD G ok (upd H a o) d' a → Dt G ok (upd H a o) r v → Q v (upd H a o)
theorem upd_keep {a : Addr} {o u : HO} (n : ¬ ok a) (hu : H a = some u) (ht : ∀ xs, u ≠ .tup xs) : (∀ b v, ok b → H b = some v → ok b ∧ upd H a o b = some v) ∧ ∀ b xs, H b = some (.tup xs) → upd H a o b = some (.tup xs) := by
  refine ⟨fun b v k e => ⟨k, ?_⟩, fun b xs e => ?_⟩
  · rw [upd_ne (fun z => n (by rw [← z]; exact k))]
    exact e
  · rw [upd_ne (fun z => by subst z; rw [hu] at e; cases e; exact ht xs rfl)]
    exact e
theorem mut_rule {T id : String} {name : Str} {kd : Nat} {F : D → List D → Option (D × D)} (pa : PlainAttrs T) (slot : Slot T name id) (hty : typeOf (.builtin id) = pure (.type "method_descriptor")) (ty : ∀ ok H d0 a, OwD G ok H d0 a → kindD d0 = kd → tyV X.K T (.ref a) H)
    (hm : MtR X id (Mut1 G F)) : MutOk G X W name kd F := by
  intro o apos es cpos i fs hc hline hlen ho hs
  have fin : ∀ {σ : L2.St} {H : Hp} {Q : VK}, tD G W (mutGD (some (kd, F)) i (seqL fs)) σ H Q → tVar i σ H fun x H1 => tyV X.K T x H1 ∧ tDL G W (seqL fs) σ H1 fun ys H2 => Mut1 G F x ys H2 Q := by
    rintro σ H Q ⟨Bd, ρ, w, a, q⟩
    unfold mutGD at q
    simp only at q
    by_cases hk : ownK i ρ = some kd
    · rw [if_pos hk] at q
      unfold ownK at hk
      cases e : ρ[i]? with
      | none => rw [e] at hk; cases hk
      | some sl =>
        rw [e] at hk
        cases sl with
        | emp => cases hk
        | dat d => cases hk
        | own d0 =>
          simp only [Option.some.injEq] at hk
          obtain ⟨v, hv, ad, e1, ow⟩ := a.en.sl.get e
          cases e1
          refine ⟨.ref ad, hv, ty _ _ _ _ ow hk, Bd, ρ, w, a, PostE.bindL a q fun ds ρ1 w1 ys H1 m r q1 => ?_⟩
          unfold mutD at q1
          cases e2 : ρ1[i]? with
          | none => simp only [e2] at q1; exact q1.elim
          | some sl =>
            cases sl with
            | emp => simp only [e2] at q1; exact q1.elim
            | dat d => simp only [e2] at q1; exact q1.elim
            | own d =>
              simp only [e2] at q1
              cases e3 : F d ds with
              | none => simp only [e3] at q1; exact q1.elim
              | some p =>
                obtain ⟨d', rr⟩ := p
                simp only [e3] at q1
                obtain ⟨v2, hv2, ad2, e4, ow2⟩ := m.at_.en.sl.get e2
                rw [hv] at hv2
                cases hv2
                cases e4
                have ma : ad ∈ owns ρ1 σ := mem_owns e2 hv
                refine ⟨ad, okA Bd (owns ρ1 σ), d, ds, d', rr, rfl, ow2, fun z => z.2 ma, r, e3, fun v o hw hr => ?_⟩
                obtain ⟨c1, c2⟩ := m.at_.en.change e2 hv hw
                obtain ⟨u, hu, hnt⟩ := ow2.notup
                have nb := m.at_.en.nb ad ma
                refine q1 v _ (Stp.mut ma hu hnt) c1 (by rw [c2]; exact fun _ h => h) ⟨?_, ?_⟩ (by rw [c2]; exact hr)
                · rw [upd_ne (fun z => nb (by rw [← z]; exact m.at_.bd.dk))]
                  exact m.at_.dk.dk
                · rw [upd_ne (fun z => nb (by rw [← z]; exact m.at_.bd.gl))]
                  exact m.at_.dk.gl
    · rw [if_neg hk] at q
      exact q.elim
  cases hs with
  | nil =>
    refine PE.weak (pe_bm0 pa slot hty hm ho (base_of hc) hline) fun σ H Q h => ?_
    obtain ⟨v, h1, h2, Bd, ρ, w, a, q⟩ := fin h
    exact ⟨v, h1, h2, q [] H Stp.refl a.en (fun _ h => h) a.dk rfl⟩
  | cons he hst r =>
    have hst' := (PEs.cons he hst r).stars
    have h2 := hst'
    simp only [List.all_cons, Bool.and_eq_true] at h2
    exact PE.weak (pe_bm pa slot hty hm ho (pa_of (.cons he hst r)) (base_of hc) (few_of hst' hlen) hline (starEach_of hst _ _) (args_plain h2.2 _ _)) fun σ H Q h => fin h
/-! #### append, extend, pop -/
def appendF (d : D) (ds : List D) : Option (D × D) := match d, ds with
  | .lst xs, [y] => if xs.length < lim then some (.lst (xs ++ [y]), .non) else none
  | _, _ => none
def extendF (d : D) (ds : List D) : Option (D × D) := match d, ds with
  | .lst xs, [.lst ys] => if xs.length + ys.length ≤ lim then some (.lst (xs ++ ys), .non) else none
  | _, _ => none
def popF (d : D) (ds : List D) : Option (D × D) := match d, ds with
  | .lst xs, [] => (match xs[xs.length - 1]? with | some y => some (.lst xs.dropLast, y) | none => none)
  | .lst xs, [.int i] => if -9223372036854775808 ≤ i ∧ i < 9223372036854775808 then (match PySem.seqIndex? i xs.length with | some j => (match xs[j]? with | some y => some (.lst (xs.eraseIdx j), y) | none => none) | none => none) else none
  | _, _ => none
theorem dropLast_dt : ∀ {ds : List D} {vs : List V}, DtL G ok H ds vs → DtL G ok H ds.dropLast vs.dropLast := fun h => by
  rw [List.dropLast_eq_take, List.dropLast_eq_take, h.length]
  exact h.take _
theorem mt_appendD : MtR X "list.append" (Mut1 G appendF) := by
  rintro pins s σ H x xs v us Q I rx rs ⟨a, ok, d, ds, d', r, rfl, ow, na, dl, e, q⟩
  unfold appendF at e
  split at e
  · rename_i ys y
    split at e
    · rename_i hl
      cases e
      obtain ⟨zs, e1, e2⟩ := ow
      obtain ⟨w, t, e3, e4, e5⟩ := dl
      cases e5
      subst e3
      obtain ⟨k1, k2⟩ := upd_keep (o := .lst (zs ++ [w])) na e1 (fun _ => by intro z; cases z)
      refine mt_append pins s σ H _ _ v us Q I rx rs ⟨a, zs, w, rfl, rfl, e1, ?_, q .non _ ⟨_, upd_same, (e2.append (.cons e4 .nil)).mono k1 k2⟩ rfl⟩
      rw [← e2.length, ← lim_eq]
      exact hl
    · cases e
  · cases e
theorem mt_extendD : MtR X "list.extend" (Mut1 G extendF) := by
  rintro pins s σ H x xs v us Q I rx rs ⟨a, ok, d, ds, d', r, rfl, ow, na, dl, e, q⟩
  unfold extendF at e
  split at e
  · rename_i ys y
    split at e
    · rename_i hl
      cases e
      obtain ⟨zs, e1, e2⟩ := ow
      obtain ⟨w, t, e3, e4, e5⟩ := dl
      cases e5
      subst e3
      obtain ⟨b, ws, e6, e7, e8, e9⟩ := e4
      subst e6
      obtain ⟨k1, k2⟩ := upd_keep (o := .lst (zs ++ ws)) na e1 (fun _ => by intro z; cases z)
      refine mt_extend pins s σ H _ _ v us Q I rx rs ⟨a, b, zs, ws, rfl, rfl, e1, e8, ?_, q .non _ ⟨_, upd_same, (e2.append e9).mono k1 k2⟩ rfl⟩
      rw [← e2.length, ← e9.length, ← lim_eq]
      exact hl
    · cases e
  · cases e
theorem mt_popD : MtR X "list.pop" (Mut1 G popF) := by
  rintro pins s σ H x xs v us Q I rx rs ⟨a, ok, d, ds, d', r, rfl, ow, na, dl, e, q⟩
  unfold popF at e
  split at e
  · rename_i ys
    split at e
    · rename_i y hy
      cases e
      obtain ⟨zs, e1, e2⟩ := ow
      obtain rfl : xs = [] := dl
      obtain ⟨u, hu, du⟩ := e2.getD hy
      obtain ⟨k1, k2⟩ := upd_keep (o := .lst zs.dropLast) na e1 (fun _ => by intro z; cases z)
      exact mt_pop pins s σ H _ _ v us Q I rx rs ⟨a, zs, u, rfl, rfl, e1, by rw [← e2.length]; exact hu, q u _ ⟨_, upd_same, (dropLast_dt e2).mono k1 k2⟩ (du.mono k1 k2)⟩
    · cases e
  · rename_i ys i
    split at e
    · rename_i hr
      split at e
      · rename_i j hj
        split at e
        · rename_i y hy
          cases e
          obtain ⟨zs, e1, e2⟩ := ow
          obtain ⟨w, t, e3, e4, e5⟩ := dl
          cases e5
          subst e3
          cases (show w = V.int i from e4)
          obtain ⟨u, hu, du⟩ := e2.getD hy
          obtain ⟨k1, k2⟩ := upd_keep (o := .lst (zs.eraseIdx j)) na e1 (fun _ => by intro z; cases z)
          exact mt_popAt pins s σ H _ _ v us Q I rx rs ⟨a, zs, i, j, u, rfl, rfl, e1, by omega, by omega, by rw [← e2.length]; exact hj, hu, q u _ ⟨_, upd_same, (e2.eraseIdx j).mono k1 k2⟩ (du.mono k1 k2)⟩
        · cases e
      · cases e
    · cases e
  · cases e
theorem ty_lst {d0 : D} {a : Addr} (ow : OwD G ok H d0 a) (hk : kindD d0 = 4) : tyV X.K "list" (.ref a) H := by
  cases d0 <;> first | (exact absurd hk (by simp only [kindD]; omega)) | skip
  obtain ⟨xs, e, _⟩ := ow
  exact .inl ⟨rfl, xs, .inl (.inl e)⟩
theorem append_ok : MutOk G X W "append" 4 appendF := mut_rule F.plainAttrs_list F.slot_list_append F.type_list_append (fun _ _ _ _ => ty_lst) mt_appendD
theorem extend_ok : MutOk G X W "extend" 4 extendF := mut_rule F.plainAttrs_list F.slot_list_extend F.type_list_extend (fun _ _ _ _ => ty_lst) mt_extendD
theorem pop_ok : MutOk G X W "pop" 4 popF := mut_rule F.plainAttrs_list F.slot_list_pop F.type_list_pop (fun _ _ _ _ => ty_lst) mt_popD
end
end DL
set_option maxRecDepth 100000
set_option maxHeartbeats 4000000
set_option linter.all false
namespace DL
open PySem PySem.Spec PyProof.Rows L2
section
variable {G : GC} {P : Program} {wd : World} {base : Heap} {k : Nat} {X : Cx} {W : WX} {ok : Addr → Prop} {H : Hp}
/-! ### methods of texts -/
def fitS (s : Str) : Bool := decide (s.length ≤ lim)
def strsD : List D → Option (List Str)
  | [] => some []
  | .str s :: ds => (strsD ds).map (s :: ·)
  | _ :: _ => none
theorem strsD_of : ∀ {ds : List D} {ys : List Str} {vs : List V}, strsD ds = some ys → DtL G ok H ds vs → vs = ys.map V.str
  | [], ys, vs, h, r => by
    cases h
    rw [show vs = [] from r]
    rfl
  | d :: ds, ys, vs, h, r => by
    obtain ⟨v, us, e1, e2, e3⟩ := r
    subst e1
    cases d <;> simp only [strsD] at h <;> first | (cases h; done) | skip
    obtain ⟨k', h1, h2⟩ := Option.map_eq_some_iff.mp h
    subst h2
    rw [strsD_of h1 e3, show v = _ from e2.1]
    rfl
theorem dt_str {s : Str} (h : fitS s = true) : Dt G ok H (.str s) (.str s) := ⟨rfl, by
  rw [← lim_eq]
  simpa [fitS] using h⟩
theorem dt_strs : ∀ {ys : List Str}, ys.all fitS = true → DtL G ok H (ys.map D.str) (ys.map V.str)
  | [], _ => rfl
  | y :: ys, h => by
    rw [List.all_cons, Bool.and_eq_true] at h
    exact .cons (dt_str h.1) (dt_strs h.2)
def splitF (d : D) (ds : List D) : Option D := match d, ds with
  | .str a, [.str b] => if (b.length == 0) = false ∧ a.length + 2 ≤ lim ∧ (Txt.split a b).all fitS = true then some (.lst ((Txt.split a b).map D.str)) else none
  | _, _ => none
def rmpreF (d : D) (ds : List D) : Option D := match d, ds with
  | .str a, [.str b] => if fitS (Txt.removeprefix a b) = true then some (.str (Txt.removeprefix a b)) else none
  | _, _ => none
def asciiF (d : D) (ds : List D) : Option D := match d, ds with
  | .str a, [] => some (.bl (Txt.isascii a))
  | _, _ => none
def digitF (d : D) (ds : List D) : Option D := match d, ds with
  | .str a, [] => some (.bl (Txt.isdigit a))
  | _, _ => none
def findF (d : D) (ds : List D) : Option D := match d, ds with
  | .str a, [.str b] => some (.int (Txt.find a b))
  | _, _ => none
def joinS (a : Str) (ds : List D) : Option D := match strsD ds with
  | some ys => if (ys.map (·.length)).sum + ys.length * a.length ≤ lim ∧ fitS (Txt.join a ys) = true then some (.str (Txt.join a ys)) else none
  | none => none
def joinF (d : D) (ds : List D) : Option D := match d, ds with
  | .str a, [.lst ys] => joinS a ys
  | .str a, [.tup ys] => joinS a ys
  | _, _ => none
theorem ty_str {d0 : D} {x : V} (r : DtB G ok H d0 x) (hk : kindD d0 = 3) : tyV X.K "str" x H := by
  cases d0 <;> first | (exact absurd hk (by simp only [kindD]; omega)) | skip
  cases (show x = V.str _ from r.1)
  exact rfl
theorem split_ok : MthOk G X W "split" 3 splitF := mth_rule F.plainAttrs_str F.slot_str_split F.type_str_split (fun _ _ _ _ => ty_str) fun ok H d ds e x xs Q hx hs h fr q => by
  unfold splitF at h
  split at h
  · rename_i a b
    split at h
    · rename_i hc
      cases h
      obtain ⟨w, t, e3, e4, e5⟩ := hs
      cases e5
      subst e3
      cases (show x = _ from hx.1)
      cases (show w = _ from e4.1)
      refine ⟨_, mt_split, a, b, rfl, rfl, hc.1, by rw [← lim_eq]; exact hc.2.1, fun p hp => ?_⟩
      exact q _ _ (Ext.new hp) (dt_newL (dt_strs hc.2.2) hp (fr p hp))
    · cases h
  · cases h
theorem rmpre_ok : MthOk G X W "removeprefix" 3 rmpreF := mth_rule F.plainAttrs_str F.slot_str_removeprefix F.type_str_removeprefix (fun _ _ _ _ => ty_str) fun ok H d ds e x xs Q hx hs h fr q => by
  unfold rmpreF at h
  split at h
  · rename_i a b
    split at h
    · rename_i hc
      cases h
      obtain ⟨w, t, e3, e4, e5⟩ := hs
      cases e5
      subst e3
      cases (show x = _ from hx.1)
      cases (show w = _ from e4.1)
      exact ⟨_, mt_removeprefix, a, b, rfl, rfl, hx.2, q _ H Ext.refl (dt_str hc)⟩
    · cases h
  · cases h
theorem ascii_ok : MthOk G X W "isascii" 3 asciiF := mth_rule F.plainAttrs_str F.slot_str_isascii F.type_str_isascii (fun _ _ _ _ => ty_str) fun ok H d ds e x xs Q hx hs h fr q => by
  unfold asciiF at h
  split at h
  · rename_i a
    cases h
    cases (show xs = [] from hs)
    cases (show x = _ from hx.1)
    exact ⟨_, mt_isascii, a, rfl, rfl, trivial, q _ H Ext.refl rfl⟩
  · cases h
theorem digit_ok : MthOk G X W "isdigit" 3 digitF := mth_rule F.plainAttrs_str F.slot_str_isdigit F.type_str_isdigit (fun _ _ _ _ => ty_str) fun ok H d ds e x xs Q hx hs h fr q => by
  unfold digitF at h
  split at h
  · rename_i a
    cases h
    cases (show xs = [] from hs)
    cases (show x = _ from hx.1)
    exact ⟨_, mt_isdigit, a, rfl, rfl, trivial, q _ H Ext.refl rfl⟩
  · cases h
theorem find_ok : MthOk G X W "find" 3 findF := mth_rule F.plainAttrs_str F.slot_str_find F.type_str_find (fun _ _ _ _ => ty_str) fun ok H d ds e x xs Q hx hs h fr q => by
  unfold findF at h
  split at h
  · rename_i a b
    cases h
    obtain ⟨w, t, e3, e4, e5⟩ := hs
    cases e5
    subst e3
    cases (show x = _ from hx.1)
    cases (show w = _ from e4.1)
    exact ⟨_, mt_find, a, b, rfl, rfl, q _ H Ext.refl rfl⟩
  · cases h
theorem join_ok (hK : X.K = G.K) : MthOk G X W "join" 3 joinF := mth_rule F.plainAttrs_str F.slot_str_join F.type_str_join (fun _ _ _ _ => ty_str) fun ok H d ds e x xs Q hx hs h fr q => by
  have go : ∀ {a : Str} {ys : List D} {p : Addr} {us : List V}, joinS a ys = some e → DtL G ok H ys us → (SqL X.K H p us ∨ SqT X.K H p us) → x = .str a → xs = [.ref p] → ∃ r, MtR X "str.join" r ∧ r x xs H Q := by
    intro a ys p us h1 h2 h3 e1 e2
    unfold joinS at h1
    split at h1
    · rename_i zs hz
      split at h1
      · rename_i hc
        cases h1
        rw [strsD_of hz h2] at h3
        exact ⟨_, mt_join, a, p, zs, e1, e2, h3, hc.1, q _ H Ext.refl (dt_str hc.2)⟩
      · cases h1
    · cases h1
  unfold joinF at h
  split at h
  · obtain ⟨w, t, e3, e4, e5⟩ := hs
    cases e5
    obtain ⟨p, us, e6, _, e7, e8⟩ := e4
    subst e6
    exact go h e8 (.inl (.inl (.inl e7))) hx.1 e3
  · obtain ⟨w, t, e3, e4, e5⟩ := hs
    cases e5
    obtain ⟨p, us, e6, e7, e8⟩ := e4
    subst e6
    exact go h e8 (.inr (by rw [hK]; exact sqT_of e7)) hx.1 e3
  · cases h
/-! ### d.get(k, x) -/
def getF (d : D) (ds : List D) : Option D := match ds with
  | [y, z] => (match d with
    | .dK ks vs => (match keyD y with | some k => some (if hasK ks k then (lookK ks vs k).getD z else z) | none => none)
    | .dT ks vs => (match y with | .tup ys => (match keysD ys with | some k => some (if hasK ks k then (lookK ks vs k).getD z else z) | none => none) | _ => none)
    | _ => none)
  | _ => none
theorem mt_getD (hu : X.A.units + 1 < cLine) : MtR X "dict.get" (fun x xs H Q => ∃ a y z o, x = .ref a ∧ xs = [y, z] ∧ DG X.K H a y o ∧ Q (o.getD z) H) := by
  rintro pins s σ H x xs v us Q I rx rs ⟨a, y, z, o, rfl, rfl, g, q⟩
  cases (show v = Value.ref a from rx)
  obtain ⟨u, r, rfl, ry, rz⟩ := rs.two
  rcases g with ⟨kvs, k, e, ey, l⟩ | ⟨kvs, k, b, e, ey, eb, l⟩
  · exact d_get2 hu I (.inl ⟨kvs, k, e, ey, l⟩) ry rz fun w' s' I' r' => ⟨_, H, I', r', q⟩
  · subst ey
    cases (show u = Value.ref b from ry)
    obtain ⟨z', hd, ys, rel, dd⟩ := dt_rd I.hok e
    refine call_meetsIn PySem.F.slot_dict_get dd.typeIs PySem.F.entry_dict_get (PySem.F.args_dict_get_3 _ _ _) (meetsH_dict_get_default (tupleKind (mixKind X.prog X.w)) a b hd r) ⟨tupleKind_room_in1 hu, k, ys, key_ofK I eb, dd, ?_⟩
    refine ⟨_, H, I.tok _, ?_, q⟩
    rw [l]
    exact (rel.val k).getD rz
theorem valV_getD {κ : Type} [DecidableEq κ] {kvs : List (κ × V)} {vs : List D} {k : κ} {z : D} {zv : V} (dl : DtL G ok H vs (kvs.map (·.2))) (hz : Dt G ok H z zv) : Dt G ok H (if hasK (kvs.map (·.1)) k then (lookK (kvs.map (·.1)) vs k).getD z else z) ((valV kvs k).getD zv) := by
  cases hh : hasK (kvs.map (·.1)) k with
  | false =>
    rw [valV_no k kvs hh]
    simpa using hz
  | true =>
    simp only [if_true]
    cases e : lookK (kvs.map (·.1)) vs k with
    | some d =>
      obtain ⟨v, h1, h2⟩ := valV_D k kvs vs d dl e
      rw [h1]
      exact h2
    | none =>
      exfalso
      have gen : ∀ (kvs : List (κ × V)) (vs : List D), DtL G ok H vs (kvs.map (·.2)) → hasK (kvs.map (·.1)) k = true → lookK (kvs.map (·.1)) vs k ≠ none := by
        intro kvs
        induction kvs with
        | nil => intro vs _ h; cases h
        | cons p r ih =>
          intro vs dl h
          cases vs with
          | nil =>
            have := dl.length
            simp at this
          | cons d vs =>
            obtain ⟨v, t, e1, e2, e3⟩ := dl
            cases e1
            rw [List.map_cons, lookK]
            by_cases q : p.1 = k
            · rw [if_pos q]; simp
            · rw [if_neg q]
              refine ih vs e3 ?_
              unfold hasK at h ⊢
              rw [List.map_cons, List.any_cons, decide_eq_false q, Bool.false_or] at h
              exact h
      exact gen kvs vs dl hh e
theorem ty_dict {d0 : D} {x : V} (r : DtB G ok H d0 x) (hk : kindD d0 = 6) : tyV X.K "dict" x H := by
  cases d0 <;> first | (exact absurd hk (by simp only [kindD]; omega)) | skip
  · obtain ⟨a, e1, us, e2, _⟩ := r
    subst e1
    exact .inr (.inr (.inl ⟨rfl, .inl ⟨us, e2⟩⟩))
  · obtain ⟨a, e1, us, e2, _⟩ := r
    subst e1
    exact .inr (.inr (.inl ⟨rfl, .inr ⟨us, e2⟩⟩))
theorem dget_ok (c : Cxy G P wd base k X W) : MthOk G X W "get" 6 getF := mth_rule F.plainAttrs_dict F.slot_dict_get F.type_dict_get (fun _ _ _ _ => ty_dict) fun ok H d ds e x xs Q hx hs h fr q => by
  have u1 : X.A.units + 1 < cLine := by have := c.room.un; omega
  unfold getF at h
  split at h
  · obtain ⟨yv, t, e3, e4, e5⟩ := hs
    obtain ⟨zv, t2, e6, e7, e8⟩ := e5
    cases e8
    subst e3
    cases e6
    split at h
    · split at h
      · rename_i kk hk
        cases h
        obtain ⟨a, e1, us, e2, e9, e10⟩ := hx
        subst e9
        exact ⟨_, mt_getD u1, a, yv, zv, valV us kk, e1, rfl, .inl ⟨us, kk, .inl e2, keyD_of hk e4.toB, rfl⟩, q _ H Ext.refl (valV_getD e10 e7)⟩
      · cases h
    · split at h
      · split at h
        · rename_i kk hk
          cases h
          obtain ⟨a, e1, us, e2, e9, e10⟩ := hx
          subst e9
          obtain ⟨b2, ws, f1, f2, f3⟩ := e4
          exact ⟨_, mt_getD u1, a, yv, zv, valV us kk, e1, rfl, .inr ⟨us, kk, b2, .inl e2, f1, by rw [← keysD_of hk f3, c.K]; exact sqT_of f2, rfl⟩, q _ H Ext.refl (valV_getD e10 e7)⟩
        · cases h
      · cases h
    · cases h
  · cases h
end
end DL
set_option maxRecDepth 100000
set_option maxHeartbeats 4000000
set_option linter.all false
namespace DL
open PySem PySem.Spec PyProof.Rows L2
section
variable {G : GC} {P : Program} {wd : World} {base : Heap} {k : Nat} {X : Cx} {W : WX} {ok : Addr → Prop} {H : Hp}
/-! ### x[k] = v -/
def putV {κ : Type} [DecidableEq κ] : List κ → List D → κ → D → List D
  | j :: ks, e :: vs, k, d => (if j = k then d else e) :: putV ks vs k d
  | _, _, _, _ => []
def putKs {κ : Type} [DecidableEq κ] (ks : List κ) (k : κ) : List κ := if hasK ks k then ks else ks ++ [k]
def putVs {κ : Type} [DecidableEq κ] (ks : List κ) (vs : List D) (k : κ) (d : D) : List D := if hasK ks k then putV ks vs k d else vs ++ [d]
theorem hasK_any {κ : Type} [DecidableEq κ] (k : κ) : ∀ kvs : List (κ × V), (kvs.any fun kv => decide (kv.1 = k)) = hasK (kvs.map (·.1)) k
  | [] => rfl
  | p :: r => by
    unfold hasK
    rw [List.any_cons, List.map_cons, List.any_cons, hasK_any k r]
    rfl
theorem put_keys {κ : Type} [DecidableEq κ] (kvs : List (κ × V)) (k : κ) (v : V) : (putK kvs k v).map (·.1) = putKs (kvs.map (·.1)) k := by
  unfold putK putKs
  rw [hasK_any]
  by_cases h : hasK (kvs.map (·.1)) k = true
  · rw [if_pos h, if_pos h, List.map_map]
    apply List.map_congr_left
    intro p _
    show (if p.1 = k then (p.1, v) else p).1 = p.1
    split <;> rfl
  · rw [if_neg h, if_neg h, List.map_append]
    rfl
theorem put_vals {κ : Type} [DecidableEq κ] {kvs : List (κ × V)} {vs : List D} {k : κ} {v : V} {d : D} (dl : DtL G ok H vs (kvs.map (·.2))) (hv : Dt G ok H d v) : DtL G ok H (putVs (kvs.map (·.1)) vs k d) ((putK kvs k v).map (·.2)) := by
  unfold putK putVs
  rw [hasK_any]
  by_cases h : hasK (kvs.map (·.1)) k = true
  · rw [if_pos h, if_pos h]
    clear h
    induction kvs generalizing vs with
    | nil =>
      cases vs with
      | nil => exact rfl
      | cons e vs => exact rfl
    | cons p r ih =>
      cases vs with
      | nil =>
        have := dl.length
        simp at this
      | cons e vs =>
        obtain ⟨u, t, e1, e2, e3⟩ := dl
        cases e1
        refine .cons ?_ (ih e3)
        show Dt G ok H (if p.1 = k then d else e) (if p.1 = k then (p.1, v) else p).2
        by_cases q : p.1 = k
        · rw [if_pos q, if_pos q]
          exact hv
        · rw [if_neg q, if_neg q]
          exact e2
  · rw [if_neg h, if_neg h, List.map_append]
    exact dl.append (.cons hv .nil)
def setD (d x y : D) : Option D := match d with
  | .lst xs => (match x with | .int i => (match ixN xs.length i with | some j => some (.lst (xs.set j y)) | none => none) | _ => none)
  | .dK ks vs => (match keyD x with | some k => if ks.length < lim then some (.dK (putKs ks k) (putVs ks vs k y)) else none | none => none)
  | .dT ks vs => (match x with | .tup ys => (match keysD ys with | some k => if ks.length < lim ∧ noI ys = false then some (.dT (putKs ks k) (putVs ks vs k y)) else none | none => none) | _ => none)
  | _ => none
theorem set_run (c : Cxy G P wd base k X W) {pins : List (Addr × Obj)} {s : Shared} {σ : L2.St} {a : Addr} {d x y d' : D} {xv yv : V} {iv r : Value} (I : Inv X pins σ H s) (ow : OwD G ok H d a) (na : ¬ ok a) (hx : Dt G ok H x xv) (hy : Dt G ok H y yv) (rx : RelV xv iv) (ry : RelV yv r) (e : setD d x y = some d') :
    wpAny (model X.prog X.w) X.A (setItem (.ref a) iv r) (fun _ s' => ∃ o, Inv X pins σ (upd H a o) s' ∧ OwD G ok (upd H a o) d' a) X.xe s := by
  have u1 : X.A.units + 1 < cLine := by have := c.room.un; omega
  cases d <;> simp only [setD] at e <;> first | (cases e; done) | skip
  · rename_i ds
    split at e
    · rename_i i
      split at e
      · rename_i j hj
        cases e
        obtain ⟨zs, e1, e2⟩ := ow
        obtain ⟨k1, k2⟩ := upd_keep (o := .lst (zs.set j yv)) na e1 (fun _ => by intro z; cases z)
        refine wpAny_mono (set_list pins s σ H (.ref a) xv yv (.ref a) iv r (fun H' => H' = upd H a (.lst (zs.set j yv))) I rfl rx ry ⟨a, zs, i, j, rfl, hx, e1, by rw [← e2.length]; exact hj, rfl⟩) (fun _ s' h => ?_) fun _ _ h => h
        obtain ⟨H', I', e3⟩ := h
        subst e3
        exact ⟨_, I', _, upd_same, (e2.set j hy).mono k1 k2⟩
      · cases e
    · cases e
  · rename_i ks vs
    split at e
    · rename_i kk hk
      split at e
      · rename_i hl
        cases e
        obtain ⟨us, e1, e2, e3⟩ := ow
        subst e2
        obtain ⟨k1, k2⟩ := upd_keep (o := .dK (putK us kk yv)) na e1 (fun _ => by intro z; cases z)
        rw [lim_eq, List.length_map] at hl
        exact d_setItem u1 I (.inl ⟨us, kk, e1, keyD_of hk hx.toB, hl, rfl⟩) rx ry fun s' I' => ⟨_, I', _, upd_same, put_keys us kk yv, (put_vals e3 hy).mono k1 k2⟩
      · cases e
    · cases e
  · rename_i ks vs
    split at e
    · rename_i ys
      split at e
      · rename_i kk hk
        split at e
        · rename_i hl
          cases e
          obtain ⟨us, e1, e2, e3⟩ := ow
          subst e2
          obtain ⟨k1, k2⟩ := upd_keep (o := .dT (putK us kk yv)) na e1 (fun _ => by intro z; cases z)
          obtain ⟨hl, hn⟩ := hl
          rw [lim_eq, List.length_map] at hl
          obtain ⟨b, zs, f1, f2, f3⟩ := hx
          subst f1
          rcases f2 with f2 | f2
          · rw [keysD_of hk f3] at f2
            exact d_setItem u1 I (.inr ⟨us, kk, b, e1, rfl, f2, hl, rfl⟩) rx ry fun s' I' => ⟨_, I', _, upd_same, put_keys us kk yv, (put_vals e3 hy).mono k1 k2⟩
          · rw [hn] at f2
            cases f2.2
        · cases e
      · cases e
    · cases e
theorem set_ok (c : Cxy G P wd base k X W) : SetOk G X W setD := by
  intro o ke ve p1 pos i fk fv Γ hΓ ho hk hv hn hs
  refine ⟨fun pins s σ H E I h => ?_⟩
  obtain ⟨Bd, ρ, w, a, q⟩ := h
  have main : tD G W fv σ H fun y H1 => ∃ ρ1 w1 dy, At G Bd ρ1 w1 σ H1 ∧ Dt G (okA Bd (owns ρ1 σ)) H1 dy y ∧ PostS G W Bd ρ1 σ H1 (setT Γ i fk dy ρ1 w1) E :=
    ⟨Bd, ρ, w, a, PostS.bind a q fun d ρ1 w1 v H1 m r q1 => ⟨ρ1, w1, d, m.at_, r, q1⟩⟩
  refine wpAny_Assign_Subscript (thn (hv.run pins s σ H _ I main) fun r s1 ⟨yv, H1, I1, rv, ρ1, w1, dy, a1, dty, q1⟩ => ?_) (swaps_of hn _ _ _)
  unfold setT at q1
  by_cases ho1 : (ownK i ρ1).isSome = true
  · rw [if_pos ho1] at q1
    unfold ownK at ho1
    cases e : ρ1[i]? with
    | none => rw [e] at ho1; cases ho1
    | some sl =>
      rw [e] at ho1
      cases sl with
      | emp => cases ho1
      | dat d => cases ho1
      | own d0 =>
        obtain ⟨v, hv1, ad, e1, ow⟩ := a1.en.sl.get e
        cases e1
        refine thn (ho.run pins s1 σ H1 (fun x H2 => x = .ref ad ∧ H2 = H1) I1 ⟨.ref ad, hv1, rfl, rfl⟩) fun u s2 ⟨x, H2, I2, rx, e2, e3⟩ => ?_
        subst e2 e3
        cases (show u = Value.ref ad from rx)
        refine thn (hk.run pins s2 σ _ (fun xv H3 => ∃ ρ2 w2 dx, At G Bd ρ2 w2 σ H3 ∧ Dt G (okA Bd (owns ρ2 σ)) H3 dx xv ∧ Dt G (okA Bd (owns ρ2 σ)) H3 dy yv ∧ PostS G W Bd ρ2 σ H3 (RS.ofE (setID Γ i dx dy ρ2) w2) E) I2 ⟨Bd, ρ1, w1, a1, PostS.bind a1 q1 fun d ρ2 w2 v2 H3 m r q2 => ⟨ρ2, w2, d, m.at_, r, Dt.carry a1.bd m.stp (fun b hb => .inl (m.sub b hb)) dty, q2⟩⟩) fun iv s3 ⟨xv, H3, I3, rxv, ρ2, w2, dx, a2, dtx, dty2, q2⟩ => ?_
        unfold setID at q2
        cases e4 : ρ2[i]? with
        | none => simp only [e4, RS.ofE] at q2; exact q2.elim
        | some sl =>
          cases sl with
          | emp => simp only [e4, RS.ofE] at q2; exact q2.elim
          | dat d => simp only [e4, RS.ofE] at q2; exact q2.elim
          | own d =>
            simp only [e4] at q2
            rw [hΓ] at q2
            cases e5 : setD d dx dy with
            | none => simp only [e5, Option.map_none, RS.ofE] at q2; exact q2.elim
            | some d' =>
              simp only [e5, Option.map_some, RS.ofE] at q2
              obtain ⟨v2, hv2, ad2, e6, ow2⟩ := a2.en.sl.get e4
              rw [hv1] at hv2
              cases hv2
              cases e6
              have ma : ad ∈ owns ρ2 σ := mem_owns e4 hv1
              refine wpAny_mono (set_run c I3 ow2 (fun z => z.2 ma) dtx dty2 rxv rv e5) (fun _ s4 hh => ?_) fun _ _ h => h
              obtain ⟨ob, I4, ow3⟩ := hh
              obtain ⟨c1, c2⟩ := a2.en.change e4 hv1 ow3
              obtain ⟨uu, hu, hnt⟩ := ow2.notup
              have nb := a2.en.nb ad ma
              refine ⟨σ, _, I4, q2 σ _ (Stp.mut ma hu hnt) c1 (by rw [c2]; exact fun _ h => .inl h) ⟨?_, ?_⟩⟩
              · rw [upd_ne (fun z => nb (by rw [← z]; exact a2.bd.dk))]
                exact a2.dk.dk
              · rw [upd_ne (fun z => nb (by rw [← z]; exact a2.bd.gl))]
                exact a2.dk.gl
  · rw [if_neg ho1] at q1
    exact q1.elim
/-! ### f-strings, numbers in texts -/
def fmtD : D → Option D
  | .str s => some (.str s)
  | .int i => if i.natAbs.log2 < 1920 then some (.str (toString i)) else none
  | _ => none
theorem fmt_ok (d e : D) (h : fmtD d = some e) : (∃ s, d = .str s ∧ e = d) ∨ ∃ i : Int, d = .int i ∧ i.natAbs.log2 < 1920 ∧ e = .str (toString i) := by
  cases d <;> simp only [fmtD] at h <;> first | (cases h; done) | skip
  · split at h
    · rename_i hl
      cases h
      exact .inr ⟨_, rfl, hl, rfl⟩
    · cases h
  · cases h
    exact .inl ⟨_, rfl, rfl⟩
/-! ### what may be walked -/
def itD : D → Option (List D)
  | .lst ds => some ds
  | .tup ds => some ds
  | .str s => some (s.cps.toList.map fun c => .str ⟨#[c]⟩)
  | _ => none
theorem it_ok (d : D) (ds : List D) (h : itD d = some ds) : d = .lst ds ∨ d = .tup ds ∨ ∃ s : Str, d = .str s ∧ ds = s.cps.toList.map fun c => .str ⟨#[c]⟩ := by
  cases d <;> simp only [itD] at h <;> first | (cases h; done) | skip
  · cases h
    exact .inr (.inr ⟨_, rfl, rfl⟩)
  · cases h
    exact .inl rfl
  · cases h
    exact .inr (.inl rfl)
/-! ### min, max of two numbers -/
def minF : List D → Option D
  | [.int i, .int j] => some (.int (if j < i then j else i))
  | _ => none
def maxF : List D → Option D
  | [.int i, .int j] => some (.int (if j > i then j else i))
  | _ => none
theorem ints2 {i j : Int} {xs : List V} (h : DtL G ok H [.int i, .int j] xs) : xs = [.int i, .int j] := by
  obtain ⟨v, r, e1, e2, e3⟩ := h
  obtain ⟨v2, r2, e4, e5, e6⟩ := e3
  cases e6
  subst e4
  rw [e1, show v = _ from e2, show v2 = _ from e5]
theorem min_ok (c : Cxy G P wd base k X W) : CallR X (.builtin "min") (PureL G minF) := by
  rintro pins s σ H xs us Q I r ⟨ok, ds, e, dl, h, fr, q⟩
  unfold minF at h
  split at h
  · cases h
    rw [ints2 dl] at r
    exact call_min2 c.calm pins s σ H _ us Q I r ⟨_, _, rfl, q _ H Ext.refl rfl⟩
  · cases h
theorem max_ok (c : Cxy G P wd base k X W) : CallR X (.builtin "max") (PureL G maxF) := by
  rintro pins s σ H xs us Q I r ⟨ok, ds, e, dl, h, fr, q⟩
  unfold maxF at h
  split at h
  · cases h
    rw [ints2 dl] at r
    exact call_max2 c.calm pins s σ H _ us Q I r ⟨_, _, rfl, q _ H Ext.refl rfl⟩
  · cases h
end
end DL
set_option maxRecDepth 100000
set_option maxHeartbeats 4000000
set_option linter.all false
namespace DL
open PySem PySem.Spec PyProof.Rows L2
/-! ### list(text) -/
section
variable {prog : Program} {w : World} {A : Around} {E : Value → Shared → Prop} {s : Shared}
theorem hint_str {x : Str} {t : Tok} {Q : Bool → Shared → Prop} (h : Q false s) : wpAny (model prog w) A (Builtin.List.listLengthHint (.str x t)) Q E s := by
  have hT : s.TypeIs (.str x t) "str" := typeIs_str _ _ _
  unfold Builtin.List.listLengthHint
  refine wpAny_bind (wpAny_specialOf hT PySem.F.slot_str_len.lookup ?_)
  generalize hid : ("str.__len__" : String) = id0
  wp_delta
  rw [show splitId id0 = some ("str", "__len__") from by subst hid; decide +kernel]
  subst hid
  refine wpAny_bind (wpAny_isInstance (T := "str") (b := true) hT (by rw [isSubtype_type]; kernel_rfl) ?_)
  refine wpAny_ite_split (fun hab => absurd hab (by decide)) (fun _ => ?_)
  refine wpAny_ite_split (fun _ => ?_) (fun hab => absurd (by decide +kernel) hab)
  refine wpAny_bind (wpAny_typeOf hT ?_)
  exact wpAny_pure h
theorem extend_str {R : Result → Shared → Prop} {x : Str} {t : Tok} (hh : A.handled = none) (S : Addr) (res : Value) (c0 : Nat) (hS : s.heap.get? S = some { cls := .type "list", data := .seq #[] c0 }) (hn : x.cps.size ≤ sizeLine)
    (hR : ∀ h' tk acc c, (∀ b o, b ≠ S → s.heap.get? b = some o → h'.get? b = some o) → h'.get? S = some { cls := .type "list", dict := none, data := .seq acc c, slots := #[] } → ItemsOf (SignAt x) acc x.cps.size → R (.ok (.ret res)) { s with heap := h', toks := tk }) :
    wpAny (model prog w) A.in1 (Builtin.List.listExtendWith (.ref S) (.str x t) res)
      (fun fin s' => match fin with | .done f => R (.ok f) s' | .again c' => c'.quiet = true ∧ codeAny (model prog w) A c' R s') (fun e s' => R (.error e) s') s := by
  have hSI : S ≠ s.heap.objs.size := Nat.ne_of_lt (Heap.lt_size hS)
  unfold Builtin.List.listExtendWith
  refine wpAny_bind (wpAny_typeOf (T := "str") (typeIs_str _ _ _) ?_)
  have h1 : Builtin.List.listSameRef (.ref S) (.str x t) = false := rfl
  simp only [h1, show (Value.type "str" == Value.type "list") = false by decide, show (Value.type "str" == Value.type "tuple") = false by decide, Bool.or_false, Bool.false_eq_true, if_false]
  refine wpAny_bind (wpAny_pyIter_str fun o St W st => ?_)
  have hS1 := Heap.get?_push_of_some o hS
  have hSf : S ∉ [s.heap.objs.size] := by simp only [List.mem_cons, List.not_mem_nil, or_false]; exact hSI
  refine wpAny_bind (wpAny_holding (hint_str ?_))
  have ending : ∀ (h : Heap) (c1 tk : Nat), St 0 h → (∀ b o, b ≠ S → s.heap.get? b = some o → h.get? b = some o) → h.get? S = some { cls := .type "list", data := .seq #[] c1 } →
      codeAny (model prog w) A (.builtin "list.extend.loop" ⟨[.ref S, .ref s.heap.objs.size, res], []⟩) R { s with heap := h, toks := tk } := by
    intro h c1 tk hst hk hS2
    refine codeAny_extend_loopS (W A.in1 (by exact hh)).toS hn S hSf res _ 0 _ #[] c1 rfl (Nat.zero_le _) hst hS2 (ItemsOf.nil _) fun s' acc c hm hS3 hacc => ?_
    rw [Moved.eq_with hm]
    refine hR s'.heap s'.toks acc c (fun b ob hb e => hm.heap b ob (fun mem => ?_) (hk b ob hb e)) hS3 hacc
    simp only [List.mem_cons, List.not_mem_nil, or_false] at mem
    rcases mem with z | z
    · exact hb z
    · rw [z] at e
      exact absurd (Heap.lt_size e) (Nat.lt_irrefl _)
  refine wpAny_ite_split (fun _ => ?_) (fun _ => wpAny_pure ⟨plainId_quiet PySem.F.plain_extend_loop _, ending _ c0 _ st (fun b ob _ e => Heap.get?_push_of_some _ e) hS1⟩)
  refine wpAny_bind (wpAny_rule ?_)
  refine wpAny_bind ?_
  show wpAny _ _ (updateSeq S (·.push .none) >>= fun _ => updateSeq S (·.pop)) _ _ _
  refine wpAny_bind (wpAny_updateSeq hS1 rfl ?_)
  have hS2 := Heap.get?_update_self (Obj.mapSeq (·.push Value.none)) hS1 rfl
  refine wpAny_updateSeq (hz := by seq_fits) hS2 rfl ?_
  have hS3 := Heap.get?_update_self (Obj.mapSeq (·.pop)) hS2 rfl
  refine wpAny_pure ⟨plainId_quiet PySem.F.plain_extend_loop _, ending _ _ _ ?_ (fun b ob hb e => ?_) hS3⟩
  · refine (W A.in1 (by exact hh)).frame 0 _ _ st fun b hb ob e => ?_
    have hbS : b ≠ S := fun z => hSf (by rw [← z]; exact hb)
    exact (Heap.get?_update_other _ _ (Ne.symm hbS)).trans ((Heap.get?_update_other _ _ (Ne.symm hbS)).trans e)
  · exact (Heap.get?_update_other _ _ (Ne.symm hb)).trans ((Heap.get?_update_other _ _ (Ne.symm hb)).trans (Heap.get?_push_of_some _ e))
theorem list_str_call {x : Str} {t : Tok} {Q : Value → Shared → Prop} (hh : A.handled = none) (hn : x.cps.size ≤ sizeLine)
    (hQ : ∀ h' tk acc c, (∀ b o, s.heap.get? b = some o → h'.get? b = some o) → h'.get? s.heap.objs.size = some { cls := .type "list", dict := none, data := .seq acc c, slots := #[] } → ItemsOf (SignAt x) acc x.cps.size → Q (.ref s.heap.objs.size) { s with heap := h', toks := tk }) :
    wpAny (model prog w) A (call (.type "list") [.str x t]) Q E s := by
  refine callType_codes (Q₁ := fun obj s1 => obj = .ref s.heap.objs.size ∧ s1 = { s with heap := s.heap.push { cls := .type "list", data := .seq #[] } }) PySem.F.called_list (PySem.F.typeCall_list_1 _) PySem.F.entry_list_init (code_list_new _ ⟨rfl, rfl⟩) fun obj s1 h1 => ?_
  obtain ⟨rfl, rfl⟩ := h1
  have hS : (s.heap.push { cls := .type "list", data := .seq #[] }).get? s.heap.objs.size = some { cls := .type "list", data := .seq #[] } := Heap.get?_push_size _ rfl
  refine ⟨⟨_, hS, rfl⟩, PySem.F.args_list_init_2 _ _, ?_⟩
  show wpAny _ _ (do let old ← Builtin.List.listItems (.ref s.heap.objs.size); Builtin.List.listUpdate (.ref s.heap.objs.size) (fun _ => #[]); letGo old.toList.reverse; Builtin.List.listExtendWith (.ref s.heap.objs.size) (.str x t) .none) _ _ _
  refine wpAny_bind ?_
  unfold Builtin.List.listItems
  refine wpAny_bind (wpAny_seqItems hS rfl (wpAny_pure ?_))
  show wpAny _ _ (updateSeq s.heap.objs.size (fun _ => #[]) >>= fun _ => letGo (#[] : Array Value).toList.reverse >>= fun _ => Builtin.List.listExtendWith (.ref s.heap.objs.size) (.str x t) .none) _ _ _
  refine wpAny_bind (wpAny_updateSeq hS rfl ?_)
  have hS2 := Heap.get?_update_self (Obj.mapSeq (fun _ => (#[] : Array Value))) hS rfl
  refine wpAny_bind (wpAny_letGo ?_)
  refine extend_str (A := A.in1) (by exact hh) s.heap.objs.size .none _ hS2 hn fun h' tk acc c hk hS3 hacc => ?_
  refine ⟨rfl, hQ h' tk acc c (fun b o e => hk b o (Nat.ne_of_lt (Heap.lt_size e)) ?_) hS3 hacc⟩
  exact (Heap.get?_update_other _ _ (Nat.ne_of_gt (Heap.lt_size e))).trans (Heap.get?_push_of_some _ e)
end
section
variable {G : GC} {P : Program} {wd : World} {base : Heap} {k : Nat} {X : Cx} {W : WX} {ok : Addr → Prop} {H : Hp}
def signs (x : Str) : List Str := x.cps.toList.map fun c => ⟨#[c]⟩
theorem vals_signs {x : Str} {acc : Array Value} (h : ItemsOf (SignAt x) acc x.cps.size) : Vals ((signs x).map V.str) acc.toList := by
  have gen : ∀ (cs : List Nat) (us : List Value), us.length = cs.length → (∀ (j : Nat) (v : Value), us[j]? = some v → ∃ (c : Nat) (t : Tok), cs[j]? = some c ∧ v = Value.str ⟨#[c]⟩ t) → Vals ((cs.map fun c => (⟨#[c]⟩ : Str)).map V.str) us := by
    intro cs
    induction cs with
    | nil =>
      intro us hl _
      cases us with
      | nil => exact .nil
      | cons u us => simp at hl
    | cons c cs ih =>
      intro us hl hv
      cases us with
      | nil => simp at hl
      | cons u us =>
        obtain ⟨c', t, e1, e2⟩ := hv 0 u rfl
        cases (Option.some.inj (show some c = some c' by simpa using e1))
        rw [e2]
        exact .cons ⟨t, rfl⟩ (ih us (by simpa using hl) fun j v e => by
          obtain ⟨c2, t2, a, b⟩ := hv (j + 1) v (by simpa using e)
          exact ⟨c2, t2, by simpa using a, b⟩)
  refine gen _ _ (by rw [Array.length_toList, Array.length_toList]; exact h.1) fun j v e => ?_
  obtain ⟨c, t, e1, e2⟩ := h.2 j v (by rw [← Array.getElem?_toList]; exact e)
  exact ⟨c, t, by rw [Array.getElem?_toList]; exact e1, e2⟩
theorem dt_signs (x : Str) : DtL G ok H ((signs x).map D.str) ((signs x).map V.str) := by
  unfold signs
  induction x.cps.toList with
  | nil => exact rfl
  | cons c cs ih => exact .cons ⟨rfl, by show (1 : Nat) ≤ sizeLine; rw [sizeLine_eq]; decide⟩ ih
def listD : D → Option D
  | .lst ds => some (.lst ds)
  | .tup ds => some (.lst ds)
  | .str s => some (.lst ((signs s).map D.str))
  | .dK ks _ => if ks.all keyFit then some (.lst (ks.map keyK)) else none
  | .dT ks _ => if ks.all (fun k => k.all keyFit) then some (.lst (ks.map fun k => .tup (k.map keyK))) else none
  | _ => none
theorem call_list_str (hc : X.calm = true) : CallR X (.type "list") (fun xs H Q => ∃ z, xs = [.str z] ∧ z.length ≤ sizeLine ∧ ∀ p, H p = none → Q (.ref p) (upd H p (.lst ((signs z).map V.str)))) := by
  intro pins s σ H xs us Q I r h
  obtain ⟨z, rfl, hz, q⟩ := h
  obtain ⟨u, rfl, t, rfl⟩ := vals1 r
  refine list_str_call (I.ok.hd hc) hz fun h' tk acc c kp e it => ?_
  refine ⟨.ref s.heap.objs.size, upd H s.heap.objs.size (.lst ((signs z).map V.str)), I.laid (t' := tk) kp (Nat.le_refl _) ?_, rfl, q _ (I.hok.fresh (Nat.le_refl _))⟩
  refine ⟨?_, acc.toList, c, vals_signs it, by rw [Array.toArray_toList]; exact e⟩
  unfold signs
  rw [List.length_map, List.length_map, Array.length_toList]
  exact hz
theorem list_ok (c : Cxy G P wd base k X W) : CallR X (.type "list") fun xs H Q => ∃ x, xs = [x] ∧ PureF G listD x H Q := by
  intro pins s σ H xs us Q I r h
  obtain ⟨x, rfl, ok, d, e, hx, h1, fr, q⟩ := h
  have out : ∀ {ds : List D} {ys : List V}, e = .lst ds → DtL G ok H ds ys → ∀ p, H p = none → Q (.ref p) (upd H p (.lst ys)) := by
    intro ds ys e1 dl p hp
    subst e1
    exact q p _ hp (Ext.new hp) (own_newL dl hp)
  cases d <;> simp only [listD] at h1 <;> first | (cases h1; done) | skip
  · cases h1
    cases (show x = V.str _ from hx.1)
    exact call_list_str c.calm pins s σ H _ us Q I r ⟨_, rfl, hx.2, out rfl (dt_signs _)⟩
  · cases h1
    obtain ⟨a, e1, ys, e2, e3⟩ := hx
    subst e1
    exact call_list_of pins s σ H _ us Q I r ⟨a, ys, rfl, .inl (.inl (.inl e2)), out rfl e3⟩
  · cases h1
    obtain ⟨a, ys, e1, e2, e3⟩ := hx
    subst e1
    exact call_list_of pins s σ H _ us Q I r ⟨a, ys, rfl, .inr (by rw [c.K]; exact sqT_of e2), out rfl e3⟩
  · split at h1
    · rename_i hf
      cases h1
      obtain ⟨a, e1, kvs, e2, e3, e4⟩ := hx
      subst e1
      refine call_listD c.calm pins s σ H _ us Q I r ⟨a, kvs, rfl, .inl e2, ?_⟩
      have := dt_keys (G := G) (ok := ok) (H := H) hf
      rw [← e3] at this
      rw [show (kvs.map fun kv => kV kv.1) = (kvs.map (·.1)).map kV by rw [List.map_map]; rfl]
      exact out (by rw [e3]) this
    · cases h1
  · split at h1
    · rename_i hf
      cases h1
      obtain ⟨a, e1, kvs, e2, e3, e4⟩ := hx
      subst e1
      refine call_list_dT c.calm pins s σ H _ us Q I r ⟨a, kvs, rfl, .inl e2, fun p bs hp hb => ?_⟩
      rw [← e3] at hf
      exact out (by rw [e3]) (dt_tkeys hb hf) p hp
    · cases h1
end
end DL
set_option maxRecDepth 100000
set_option maxHeartbeats 4000000
set_option linter.all false
namespace DL
open PySem PySem.Spec PyProof.Rows L2
open PySem.Froz (SD sObj addTx TxOk)
/-! ### sorted(set(text)) -/
/-- a set of texts: its payload, its members -/
structure STx (P : Program) (w : World) (D : SD) (l : List Str) : Prop where
  ok : TxOk P w D l
  ris : Ris D.2.2.place.toList
  led : w.params.followText "set-order" = true ∨ D.2.2.led = true
  nd : l.Nodup
section
variable {P : Program} {w : World} {A : Around} {E : Value → Shared → Prop} {s : Shared}
theorem STx.new (l : Bool) (h : w.params.followText "set-order" = true ∨ l = true) (ep : Nat) : STx P w (#[], ep, .fresh 0 0 l) [] where
  ok := PySem.Froz.TxOk.nil (t := .fresh 0 0 l) (by cases l <;> decide +kernel)
  ris := List.Pairwise.nil
  led := h
  nd := List.nodup_nil
theorem tail_ris {ep : Nat} {es1 : Array (Int × Value)} {t2 : SetTable} {d : Bool} (h : Ris t2.place.toList) : Ris (PySem.Froz.tailTx ep es1 t2 d).2.2.place.toList := by
  unfold PySem.Froz.tailTx
  by_cases c : (!d && t2.tooFull) = true
  · rw [if_pos c]
    exact relayAll_ris _ _ _
  · rw [if_neg c]
    exact h
theorem tail_led {ep : Nat} {es1 : Array (Int × Value)} {t2 : SetTable} {d : Bool} (h : t2.led = true) : (PySem.Froz.tailTx ep es1 t2 d).2.2.led = true := by
  unfold PySem.Froz.tailTx
  by_cases c : (!d && t2.tooFull) = true
  · rw [if_pos c]
    exact (relayAll_led _ _ _).trans h
  · rw [if_neg c]
    exact h
theorem STx.add {D : SD} {l : List Str} {k : Str} (u : Tok) (F : STx P w D l) (hk : k ∉ l) : STx P w (addTx (hashStr w k) (.str k u) D) (k :: l) := by
  have h1 := layNew_ris D.2.2 D.1 (hashStr w k) (.str k u) F.ris
  have h2 := layNew_led D.2.2 D.1 (hashStr w k) (.str k u)
  have hr : Ris (if (layNew D.2.2 D.1 (hashStr w k) (.str k u)).2.1.plain = true then { (layNew D.2.2 D.1 (hashStr w k) (.str k u)).2.1 with plain := false } else (layNew D.2.2 D.1 (hashStr w k) (.str k u)).2.1).place.toList := by
    split <;> exact h1
  have hl : w.params.followText "set-order" = true ∨ (if (layNew D.2.2 D.1 (hashStr w k) (.str k u)).2.1.plain = true then { (layNew D.2.2 D.1 (hashStr w k) (.str k u)).2.1 with plain := false } else (layNew D.2.2 D.1 (hashStr w k) (.str k u)).2.1).led = true := by
    refine F.led.imp id fun z => ?_
    split <;> exact h2.trans z
  refine ⟨PySem.Froz.add_ok u F.ok, ?_, ?_, List.nodup_cons.mpr ⟨hk, F.nd⟩⟩
  · exact tail_ris hr
  · exact hl.imp id fun z => tail_led z
/-- a text that is in it already -/
theorem add_same {a : Addr} {D : SD} {l : List Str} {k : Str} {u : Tok} {Q : Bool → Shared → Prop} (ho : s.heap.get? a = some (sObj "set" D)) (F : STx P w D l) (hb : l.length < scanBound) (hk : k ∈ l) (h : Q false s) :
    wpAny (model P w) A (setAddHashed a (.str k u) (hashStr w k)) Q E s := by
  obtain ⟨es, ep, t⟩ := D
  have hd : (sObj "set" (es, ep, t)).data = .set es ep t := rfl
  have hf : t.fits es.size = true := F.ok.fit
  have hel : ElemsOf (strKind P w) es.toList := F.ok.el
  have hkey : (strKind P w).is k (.str k u) = true := PySem.Froz.is_str k u
  have hsz : es.size = l.length := F.ok.sz
  unfold setAddHashed setAddHashedIn
  refine wpAny_holding (wpAny_bind (wpAny_setState_of ho hd hf ?_))
  dsimp only
  rw [byScan_of (show (Value.str k u).scannable = true from rfl) (by rw [hsz]; exact hb) hel]
  simp only [↓reduceIte]
  unfold setAddByScan
  refine wpAny_bind ?_
  refine wpAny_bind (wpAny_rule ?_)
  refine wpAny_bind (wpAny_setScan_of (knd := strKind P w) (k := k) hkey ho hd hf hel ?_)
  cases hfi : List.findIdx? (fun e => (strKind P w).is k e.2) es.toList with
  | some j =>
    dsimp only
    exact wpAny_pure (wpAny_pure h)
  | none =>
    exfalso
    obtain ⟨e, he, q⟩ := (F.ok.mem k).mp hk
    have c := List.findIdx?_eq_none_iff.mp hfi e he
    rw [q] at c
    cases c
theorem sing_take {x : Str} {i : Nat} {c : Nat} (h : x.cps[i]? = some c) : x.cps.toList.take (i + 1) = x.cps.toList.take i ++ [c] := by
  have h' : x.cps.toList[i]? = some c := by rw [Array.getElem?_toList]; exact h
  obtain ⟨hi, e⟩ := List.getElem?_eq_some_iff.mp h'
  rw [List.take_add_one, h']
  rfl
/-- the signs of a text, into a set -/
theorem loop_signs {R : Result → Shared → Prop} {I : Addr} {fp wr : List Addr} {G : Array GenState → Array GenState → Prop} {St : Nat → Shared → Prop} {x : Str} (W : WalksS P w A.in1 I fp wr G x.cps.size (SignAt x) St) (S : Addr) (hSf : S ∉ fp) (hb : x.cps.size + 1 < scanBound) :
    ∀ (m i : Nat) (s : Shared) (D : SD) (l : List Str), x.cps.size - i = m → i ≤ x.cps.size → St i s → s.heap.get? S = some (sObj "set" D) → STx P w D l → l.length ≤ i → (∀ k : Str, k ∈ l ↔ ∃ c ∈ x.cps.toList.take i, k = ⟨#[c]⟩) →
      (∀ s' D l, Moved (S :: wr) G s s' → s'.heap.get? S = some (sObj "set" D) → STx P w D l → l.length ≤ x.cps.size → (∀ k : Str, k ∈ l ↔ ∃ c ∈ x.cps.toList, k = ⟨#[c]⟩) → R (.ok (.ret .none)) s') →
      codeAny (model P w) A (.builtin "set.update.loop" ⟨[.ref S, .ref I], []⟩) R s := by
  have hSw : S ∉ wr := fun h => hSf (W.sub _ h)
  have hsub : ∀ b ∈ wr, b ∈ S :: wr := fun b hb => List.mem_cons_of_mem _ hb
  intro m
  induction m with
  | zero =>
    intro i s D l hk hi hst hS F hl hm hR
    have hin : i = x.cps.size := by omega
    subst hin
    refine codeAny_builtin PyProof.Rows.F.entry_set_update_loop ?_
    rw [Around.under_plainId PyProof.Rows.F.plain_set_update_loop _]
    show wpAny _ A.in1 (pyNext (.ref I) >>= _) _ _ s
    refine wpAny_bind (W.done s _ _ hst fun s' hmv => ?_)
    show wpAny _ A.in1 (ret Value.none) _ _ s'
    refine wpAny_pure (hR s' D l (hmv.mono hsub) (hmv.heap S _ hSw hS) F hl fun k => ?_)
    rw [hm k, List.take_of_length_le (by rw [Array.length_toList]; exact Nat.le_refl _)]
  | succ m ih =>
    intro i s D l hk hi hst hS F hl hm hR
    have hlt : i < x.cps.size := by omega
    refine codeAny_builtin PyProof.Rows.F.entry_set_update_loop ?_
    rw [Around.under_plainId PyProof.Rows.F.plain_set_update_loop _]
    show wpAny _ A.in1 (pyNext (.ref I) >>= _) _ _ s
    refine wpAny_bind (W.item i s _ _ hlt hst fun v s' hP hst' hmv => ?_)
    obtain ⟨c, u, hc, rfl⟩ := hP
    have hS' := hmv.heap S _ hSw hS
    have htk := sing_take hc
    show wpAny _ A.in1 (holding [Value.str ⟨#[c]⟩ u] (setAdd S (.str ⟨#[c]⟩ u)) >>= _) _ _ s'
    refine wpAny_bind (wpAny_holding ?_)
    unfold setAdd
    refine wpAny_holding ?_
    refine wpAny_bind ((strKind P w).pyHash (k := ⟨#[c]⟩) (PySem.Froz.is_str _ _) ?_)
    by_cases hin : (⟨#[c]⟩ : Str) ∈ l
    · refine add_same (s := { s' with toks := s'.toks + 1 }) hS' F (by omega) hin ?_
      refine wpAny_pure ⟨plainId_quiet PyProof.Rows.F.plain_set_update_loop _, ih (i + 1) _ D l (by omega) hlt (W.frame _ s' _ _ hst' (Nat.le_succ _) fun b hb o e => e) hS' F (by omega) (fun k => ?_) fun s'' D2 l2 hm2 a1 a2 a3 a4 => ?_⟩
      · rw [hm k, htk]
        constructor
        · rintro ⟨d, h1, h2⟩
          exact ⟨d, List.mem_append_left _ h1, h2⟩
        · rintro ⟨d, h1, h2⟩
          rcases List.mem_append.mp h1 with h1 | h1
          · exact ⟨d, h1, h2⟩
          · rw [List.mem_singleton.mp h1] at h2
            rw [h2]
            exact (hm _).mp hin
      · exact hR s'' D2 l2 (Moved.trans W.gtrans ((hmv.mono hsub).then_heap (Nat.le_succ _) fun b o hb e => e) hm2) a1 a2 a3 a4
    · refine PySem.Froz.add_x (l := l) (D := D) (s := { s' with toks := s'.toks + 1 }) hS' F.ok hin (by omega) ?_
      have hS2 : (s'.heap.update S (fun _ => sObj "set" (addTx (hashStr w ⟨#[c]⟩) (.str ⟨#[c]⟩ u) D))).get? S = some (sObj "set" (addTx (hashStr w ⟨#[c]⟩) (.str ⟨#[c]⟩ u) D)) := PySem.Froz.get_upd _ hS' rfl
      refine wpAny_pure ⟨plainId_quiet PyProof.Rows.F.plain_set_update_loop _, ih (i + 1) _ _ (⟨#[c]⟩ :: l) (by omega) hlt (W.frame _ s' _ _ hst' (Nat.le_succ _) fun b hb o e => ?_) hS2 (F.add u hin) (by simp only [List.length_cons]; omega) (fun k => ?_) fun s'' D2 l2 hm2 a1 a2 a3 a4 => ?_⟩
      · exact PySem.Heap.get?_update_of_ne _ (fun z => hSf (by rw [z]; exact hb)) e
      · rw [htk, List.mem_cons, hm k]
        constructor
        · rintro (h | ⟨d, h1, h2⟩)
          · exact ⟨c, List.mem_append_right _ (List.mem_singleton.mpr rfl), h⟩
          · exact ⟨d, List.mem_append_left _ h1, h2⟩
        · rintro ⟨d, h1, h2⟩
          rcases List.mem_append.mp h1 with h1 | h1
          · exact .inr ⟨d, h1, h2⟩
          · rw [List.mem_singleton.mp h1] at h2
            exact .inl h2
      · refine hR s'' D2 l2 (Moved.trans W.gtrans ((hmv.mono hsub).then_heap (Nat.le_succ _) fun b o hb e => ?_) hm2) a1 a2 a3 a4
        exact PySem.Heap.get?_update_of_ne _ (fun z => hb (by rw [z]; exact List.mem_cons_self)) e
end
end DL
set_option maxRecDepth 100000
set_option maxHeartbeats 4000000
set_option linter.all false
namespace DL
open PySem PySem.Spec PyProof.Rows L2
open PySem.Froz (SD sObj addTx TxOk)
section
variable {P : Program} {w : World} {A : Around} {E : Value → Shared → Prop} {s : Shared}
/-- the object that a set begins as -/
def set0 (w : World) : Obj := { cls := .type "set", dict := none, data := .set #[] 0 (.fresh 0 0 (!w.params.followText "set-order")) }
theorem set_init_str {A2 : Around} {x : Str} {t : Tok} {S : Addr} {R : Result → Shared → Prop} (hh : A.handled = none) (hS : s.heap.get? S = some (set0 w)) (hb : x.cps.size + 1 < scanBound)
    (h : ∀ (h' : Heap) (tk : Nat) D l, h'.get? S = some (sObj "set" D) → STx P w D l → l.length ≤ x.cps.size → (∀ k : Str, k ∈ l ↔ ∃ c ∈ x.cps.toList, k = ⟨#[c]⟩) → (∀ b o, b ≠ S → s.heap.get? b = some o → h'.get? b = some o) → R (.ok (.ret .none)) { s with heap := h', toks := tk }) :
    wpAny (model P w) A (Builtin.«set.__init__» ⟨[.ref S, .str x t], []⟩)
      (fun fin s' => match fin with | .done f => R (.ok f) s' | .again c' => c'.quiet = true ∧ codeAny (model P w) A2 c' R s') E s := by
  have hsls := PySem.F.sub_str_set
  have hslf := PySem.F.sub_str_frozenset
  have hne : (Value.type "str" == Value.type "dict") = false := by decide
  unfold Builtin.«set.__init__» noKeywords Builtin.Frozenset.updateFrom
  generalize hPI : pyIter = PI
  wp_walk
  subst hPI
  refine wpAny_pyIter_str fun o St W st => ?_
  refine wpAny_bind (wpAny_runValue ?_)
  have hSI : S ≠ s.heap.objs.size := Nat.ne_of_lt (Heap.lt_size hS)
  have led : w.params.followText "set-order" = true ∨ (!w.params.followText "set-order") = true := by
    cases w.params.followText "set-order"
    · exact .inr rfl
    · exact .inl rfl
  refine loop_signs (W A.in1 (by exact hh)).toS S (by simp only [List.mem_cons, List.not_mem_nil, or_false]; exact hSI) hb _ 0 _ (#[], 0, .fresh 0 0 (!w.params.followText "set-order")) [] rfl (Nat.zero_le _) st (Heap.get?_push_of_some _ hS) (STx.new _ led 0) (Nat.le_refl _) (fun k => by simp) fun s' D l hm a1 a2 a3 a4 => ?_
  obtain ⟨h', g', d', tk', os'⟩ := s'
  have eg : g' = s.gens := hm.gens
  have ed : d' = s.drawn := hm.drawn
  have eo : os' = s.os := hm.os
  subst eg ed eo
  show wpAny _ _ _ _ _ _
  refine wpAny_pure ?_
  show wpAny _ _ (ret Value.none) _ _ _
  refine wpAny_pure (h h' tk' D l a1 a2 a3 a4 fun b ob hb2 e => ?_)
  have hlt := Heap.lt_size e
  exact hm.heap b ob (by simp only [List.mem_cons, List.not_mem_nil, or_false, not_or]; exact ⟨hb2, Nat.ne_of_lt hlt⟩) (Heap.get?_push_of_some _ e)
theorem call_set_text {x : Str} {t : Tok} {Q : Value → Shared → Prop} (hh : A.handled = none) (hb : x.cps.size + 1 < scanBound)
    (h : ∀ (h' : Heap) (tk : Nat) D l, h'.get? s.heap.objs.size = some (sObj "set" D) → STx P w D l → l.length ≤ x.cps.size → (∀ k : Str, k ∈ l ↔ ∃ c ∈ x.cps.toList, k = ⟨#[c]⟩) → (∀ b o, s.heap.get? b = some o → h'.get? b = some o) → Q (.ref s.heap.objs.size) { s with heap := h', toks := tk }) :
    wpAny (model P w) A (call (.type "set") [.str x t]) Q E s := by
  obtain ⟨c, tl, hmro⟩ := PySem.F.called_set.mro
  have hmade := PySem.F.called_set.made
  have hsub := PySem.F.called_set.sub
  refine wpAny_call (codeAny_of_tree ?_)
  show wpAny _ _ (callAny (.type "set") _) _ _ _
  refine wpAny_pure ⟨Code.quiet_builtin _ (by decide +kernel), codeAny_builtin PySem.F.entry_type_call ?_⟩
  rw [Around.under_plain (weight_type_call_type "set" [.str x t] []) rfl]
  have h1 := PySem.F.called_set.notType
  have h2 := PySem.F.called_set.canCreate
  have hct := PySem.F.typeCall_set_1 (.str x t)
  repeat (any_goals (first | assumption | wp_step))
  refine codeAny_mono (code_set_led1 (.str x t) (E := E) (Q₁ := fun obj s1 => obj = .ref s.heap.objs.size ∧ s1 = { s with heap := s.heap.push (set0 w) }) ⟨rfl, rfl⟩) fun r s1 hr => ?_
  cases r with
  | error e => exact hr
  | ok fl =>
    cases fl with
    | ret obj =>
      obtain ⟨rfl, rfl⟩ := hr
      have hS : (s.heap.push (set0 w)).get? s.heap.objs.size = some (set0 w) := Heap.get?_push_size _ rfl
      have hT : Shared.TypeIs { s with heap := s.heap.push (set0 w) } (.ref s.heap.objs.size) "set" := ⟨_, hS, rfl⟩
      have hli := PySem.F.called_set.init.lookup
      have hbi := PySem.F.called_set.init.bind (.ref s.heap.objs.size)
      repeat (any_goals (first | assumption | wp_step))
      refine codeAny_mono (codeAny_call_builtin (R := wants (fun r s2 => r = .none ∧ Q (.ref s.heap.objs.size) s2) E) PySem.F.called_set.init.plain PySem.F.entry_set_init (check_set_init_1 hT ?_)) fun r2 s2 hr2 => ?_
      · refine set_init_str (A := A.in1.in1) (A2 := A.in1) (x := x) (t := t) (R := wants (fun r s2 => r = .none ∧ Q (.ref s.heap.objs.size) s2) E) (s := { s with heap := s.heap.push (set0 w) }) (by simp [hh]) hS hb fun h' tk D l a1 a2 a3 a4 a5 => ⟨rfl, h h' tk D l a1 a2 a3 a4 fun b o e => ?_⟩
        exact a5 b o (Nat.ne_of_lt (Heap.lt_size e)) (Heap.get?_push_of_some _ e)
      · cases r2 with
        | error e => exact hr2
        | ok fl2 =>
          cases fl2 with
          | ret r =>
            obtain ⟨rfl, hq⟩ := hr2
            repeat (any_goals (first | assumption | wp_step))
          | _ => exact hr2.elim
    | _ => exact hr.elim
end
end DL
set_option maxRecDepth 100000
set_option maxHeartbeats 4000000
set_option linter.all false
namespace DL
open PySem PySem.Spec PyProof.Rows L2
open PySem.Froz (SD sObj addTx TxOk)
/-! ### ascending signs -/
def insN (c : Nat) : List Nat → List Nat
  | [] => [c]
  | d :: ds => if c < d then c :: d :: ds else if c = d then d :: ds else d :: insN c ds
def asc : List Nat → List Nat
  | [] => []
  | c :: cs => insN c (asc cs)
theorem insN_mem {c x : Nat} : ∀ {l : List Nat}, x ∈ insN c l ↔ x = c ∨ x ∈ l
  | [] => by simp [insN]
  | d :: ds => by
    rw [insN]
    split
    · simp
    · split
      · rename_i h
        subst h
        simp
      · rw [List.mem_cons, insN_mem, List.mem_cons]
        constructor
        · rintro (h | h | h)
          · exact .inr (.inl h)
          · exact .inl h
          · exact .inr (.inr h)
        · rintro (h | h | h)
          · exact .inr (.inl h)
          · exact .inl h
          · exact .inr (.inr h)
theorem insN_asc {c : Nat} : ∀ {l : List Nat}, l.Pairwise (· < ·) → (insN c l).Pairwise (· < ·)
  | [], _ => by simp [insN]
  | d :: ds, h => by
    obtain ⟨h1, h2⟩ := List.pairwise_cons.mp h
    rw [insN]
    split
    · rename_i hc
      refine List.pairwise_cons.mpr ⟨fun x hx => ?_, h⟩
      rcases List.mem_cons.mp hx with e | e
      · rw [e]; exact hc
      · exact Nat.lt_trans hc (h1 x e)
    · split
      · exact h
      · rename_i hn he
        refine List.pairwise_cons.mpr ⟨fun x hx => ?_, insN_asc h2⟩
        rcases insN_mem.mp hx with e | e
        · rw [e]; omega
        · exact h1 x e
theorem asc_mem {x : Nat} : ∀ {l : List Nat}, x ∈ asc l ↔ x ∈ l
  | [] => Iff.rfl
  | c :: cs => by rw [asc, insN_mem, asc_mem, List.mem_cons]
theorem asc_asc : ∀ l : List Nat, (asc l).Pairwise (· < ·)
  | [] => List.Pairwise.nil
  | c :: cs => insN_asc (asc_asc cs)
theorem asc_eq : ∀ {l m : List Nat}, l.Pairwise (· < ·) → m.Pairwise (· < ·) → (∀ x, x ∈ l ↔ x ∈ m) → l = m
  | [], [], _, _, _ => rfl
  | [], c :: m, _, _, h => absurd ((h c).mpr List.mem_cons_self) (by simp)
  | c :: l, [], _, _, h => absurd ((h c).mp List.mem_cons_self) (by simp)
  | c :: l, d :: m, h1, h2, h => by
    obtain ⟨a1, a2⟩ := List.pairwise_cons.mp h1
    obtain ⟨b1, b2⟩ := List.pairwise_cons.mp h2
    have e : c = d := by
      rcases List.mem_cons.mp ((h c).mp List.mem_cons_self) with e | e
      · exact e
      · rcases List.mem_cons.mp ((h d).mpr List.mem_cons_self) with e' | e'
        · exact e'.symm
        · have := a1 d e'
          have := b1 c e
          omega
    subst e
    refine congrArg (List.cons c) (asc_eq a2 b2 fun x => ?_)
    have := h x
    rw [List.mem_cons, List.mem_cons] at this
    constructor
    · intro hx
      rcases this.mp (.inr hx) with z | z
      · subst z
        exact absurd (a1 x hx) (Nat.lt_irrefl _)
      · exact z
    · intro hx
      rcases this.mpr (.inr hx) with z | z
      · subst z
        exact absurd (b1 x hx) (Nat.lt_irrefl _)
      · exact z
def sg (c : Nat) : Str := ⟨#[c]⟩
theorem sg_inj {c d : Nat} (h : sg c = sg d) : c = d := by
  have : [c] = [d] := congrArg (fun y : Str => y.cps.toList) h
  exact (List.cons.inj this).1
/-! ### the answer -/
def ssetF : D → Option D
  | .str z => if z.cps.size < 4000 ∧ (z.cps.toList.all fun c => PyData.strOk (sg c)) = true then some (.lst ((asc z.cps.toList).map fun c => .str (sg c))) else none
  | _ => none
theorem pys_sg : ∀ l : List Nat, D.pys (l.map fun c => D.str (sg c)) = some (l.map fun c => PyData.str (sg c))
  | [] => rfl
  | c :: l => by rw [List.map_cons, D.pys, D.py, pys_sg l]; rfl
theorem sortB_sg {l : List Nat} (h : ∀ c ∈ l, PyData.strOk (sg c) = true) : sortB (l.map fun c => PyData.str (sg c)) = true := by
  simp only [sortB, Bool.and_eq_true, Bool.or_eq_true, List.all_eq_true, List.mem_map]
  refine ⟨?_, .inr ?_⟩
  · rintro p ⟨c, hc, rfl⟩
    refine ⟨?_, ?_⟩
    · simp only [SeqAt.shaped, Bool.and_eq_true, decide_eq_true_eq]
      exact ⟨h c hc, by simp [PyData.depth]⟩
    · rintro q ⟨d, hd, rfl⟩
      rfl
  · rintro p ⟨c, hc, rfl⟩
    rfl
end DL
set_option maxRecDepth 100000
set_option maxHeartbeats 4000000
set_option linter.all false
namespace DL
open PySem PySem.Spec PyProof.Rows L2
open PySem.Froz (SD sObj addTx TxOk)
theorem perm_cover {α : Type} [BEq α] [LawfulBEq α] : ∀ {l m : List α}, l.Nodup → (∀ x ∈ l, x ∈ m) → m.length = l.length → m.Perm l
  | [], m, _, _, h => by
    obtain rfl : m = [] := List.length_eq_zero_iff.mp (by simpa using h)
    exact List.Perm.refl _
  | a :: l, m, hn, hs, h => by
    obtain ⟨h1, h2⟩ := List.nodup_cons.mp hn
    have ha : a ∈ m := hs a List.mem_cons_self
    have p := List.perm_cons_erase ha
    refine p.trans (List.Perm.cons a (perm_cover h2 (fun x hx => ?_) ?_))
    · exact (List.mem_erase_of_ne (fun z => h1 (by rw [← z]; exact hx))).mpr (hs x (List.mem_cons_of_mem _ hx))
    · have := p.length_eq
      rw [List.length_cons] at this h
      omega
theorem le_sg (a b : Nat) : (!PySem.W.dataLt (.str (sg b)) (.str (sg a))) = decide (a ≤ b) := by
  rw [PySem.W.dataLt_str]
  have e : ((sg b).cps.toList < (sg a).cps.toList) ↔ b < a := by
    show [b] < [a] ↔ b < a
    rw [List.cons_lt_cons_iff]
    simp
  by_cases h : b < a
  · rw [decide_eq_true (e.mpr h), decide_eq_false (by omega)]
    rfl
  · rw [decide_eq_false (fun z => h (e.mp z)), decide_eq_true (by omega)]
    rfl
theorem sortD_sg {l : List Nat} (hn : l.Nodup) : sortD (l.map fun c => D.str (sg c)) (l.map fun c => PyData.str (sg c)) = (asc l).map fun c => D.str (sg c) := by
  unfold sortD
  have e1 : (l.map fun c => D.str (sg c)).zip (l.map fun c => PyData.str (sg c)) = l.map fun c => (D.str (sg c), PyData.str (sg c)) := by
    induction l with
    | nil => rfl
    | cons c l ih => rw [List.map_cons, List.map_cons, List.zip_cons_cons, ih (List.nodup_cons.mp hn).2, List.map_cons]
  rw [e1, ← List.map_mergeSort (r := fun a b : Nat => decide (a ≤ b)) (fun a _ b _ => by
    rw [PySem.W.dataLe_eq]
    exact (le_sg a b).symm), List.map_map]
  have e2 : l.mergeSort (fun a b => decide (a ≤ b)) = asc l := by
    have hp := List.mergeSort_perm l (fun a b : Nat => decide (a ≤ b))
    refine asc_eq ?_ (asc_asc l) fun x => by rw [hp.mem_iff, asc_mem]
    have h1 := List.pairwise_mergeSort (le := fun a b : Nat => decide (a ≤ b)) (fun a b c h1 h2 => by simp at h1 h2 ⊢; omega) (fun a b => by simp; omega) l
    have h2 : (l.mergeSort (fun a b => decide (a ≤ b))).Nodup := hp.nodup_iff.mpr hn
    exact (h1.and h2).imp fun {a b} h => by
      have h3 : a ≤ b := by simpa using h.1
      have h4 : a ≠ b := h.2
      omega
  rw [e2]
  rfl
section
variable {G : GC} {P : Program} {wd : World} {base : Heap} {k : Nat} {X : Cx} {W : WX} {ok : Addr → Prop} {H : Hp}
theorem vals_sg {es : List Value} {cs : List Nat} (h : PySem.W.EachIs (fun v c => ∃ t, v = Value.str (sg c) t) es cs) : Vals ((cs.map sg).map V.str) es := by
  induction h with
  | nil => exact .nil
  | cons h _ ih => exact .cons h ih
theorem dt_sg (cs : List Nat) : DtL G ok H (cs.map fun c => D.str (sg c)) ((cs.map sg).map V.str) := by
  induction cs with
  | nil => exact rfl
  | cons c cs ih => exact .cons ⟨rfl, by show (1 : Nat) ≤ sizeLine; rw [sizeLine_eq]; decide⟩ ih
theorem sset_run (c : Cxy G P wd base k X W) (v : Value) (x : V) (pins : List (Addr × Obj)) (s : Shared) (σ : L2.St) (H : Hp) (Q : VK) (I : Inv X pins σ H s) (rx : RelV x v) (h : PureF G ssetF x H Q) :
    wpAny (model X.prog X.w) X.A (call (.type "set") [v]) (fun u s1 => wpAny (model X.prog X.w) X.A (call (.builtin "sorted") [u]) (EP X pins σ Q) X.xe s1) X.xe s := by
  obtain ⟨ok, d, e, hx, h1, fr, q⟩ := h
  cases d <;> simp only [ssetF] at h1 <;> first | (cases h1; done) | skip
  rename_i z
  split at h1
  · rename_i hc
    cases h1
    obtain ⟨hc1, hc2⟩ := hc
    cases (show x = V.str z from hx.1)
    obtain ⟨t, rfl⟩ := rx
    have hu := c.room.un
    refine call_set_text (I.ok.hd c.calm) (by unfold scanBound; omega) fun h' tk D l a1 F a3 a4 kp => ?_
    have I1 : Inv X pins σ H { s with heap := h', toks := tk } := I.kept kp
    obtain ⟨es, ep, tb⟩ := D
    have hsz : es.size = l.length := F.ok.sz
    refine Calls.call_function_entry PyProof.Rows.kind_sorted PyProof.Rows.plain_sorted PyProof.Rows.entry_sorted (PyProof.Rows.args_sorted1 _) ?_
    unfold Builtin.«sorted»
    refine wpAny_bind (m := checkCount "sorted" 1 1 _) (wpAny_pure ?_)
    refine wpAny_bind (collect_set (A := X.A.in1) (I.ok.hd c.calm) ⟨_, a1, rfl, rfl⟩ F.ok.fit (by rw [hsz]; unfold scanBound; omega) F.ris F.led fun s2 vs k1 hz g1 o1 pm => ?_)
    have I2 : Inv X pins σ H s2 := by
      have J : Inv X pins σ H { s with heap := s2.heap, gens := s2.gens, drawn := s2.drawn, toks := s2.toks } := I.call (ch := []) (Un.kept fun b o e => k1 b o (kp b o e)) (I.hok.kept fun b o e => k1 b o (kp b o e)) (by rw [g1]; exact I.bare) (fun _ z => nomatch z)
      have e : s2 = { s with heap := s2.heap, gens := s2.gens, drawn := s2.drawn, toks := s2.toks } := by
        cases s2
        cases s
        cases o1
        rfl
      rw [e]
      exact J
    -- the members, in the order of the set's table
    have hel : ∀ w ∈ vs, ∃ cc t, w = Value.str (sg cc) t ∧ cc ∈ z.cps.toList := fun w hw => by
      obtain ⟨e, he, q⟩ := List.mem_map.mp (pm.mem_iff.mp hw)
      obtain ⟨⟨kk, hk, _⟩, _⟩ := F.ok.el e he
      obtain ⟨t, ht⟩ := Value.isStrOf_shape (x := kk) (v := e.2) hk
      obtain ⟨cc, hcc, hk2⟩ := (a4 kk).mp ((F.ok.mem kk).mpr ⟨e, he, hk⟩)
      exact ⟨cc, t, by rw [← q, ht, hk2]; rfl, hcc⟩
    have each : ∀ us : List Value, (∀ w ∈ us, ∃ cc t, w = Value.str (sg cc) t ∧ cc ∈ z.cps.toList) → ∃ cs : List Nat, PySem.W.EachIs (fun v c => ∃ t, v = Value.str (sg c) t) us cs ∧ ∀ cc ∈ cs, cc ∈ z.cps.toList := by
      intro us
      induction us with
      | nil => exact fun _ => ⟨[], .nil, fun _ h => by simp at h⟩
      | cons u us ih =>
        intro hh
        obtain ⟨cs, h1, h2⟩ := ih fun w hw => hh w (List.mem_cons_of_mem _ hw)
        obtain ⟨cc, t, e1, e2⟩ := hh u List.mem_cons_self
        refine ⟨cc :: cs, .cons ⟨t, e1⟩ h1, fun d hd => ?_⟩
        rcases List.mem_cons.mp hd with e | e
        · rw [e]; exact e2
        · exact h2 d e
    obtain ⟨cs, h2, h3⟩ := each vs hel
    have hcl : cs.length = l.length := by
      rw [← h2.length, pm.length_eq, List.length_map, Array.length_toList, hsz]
    have hperm : (cs.map sg).Perm l := by
      refine perm_cover F.nd (fun kk hk => ?_) (by rw [List.length_map, hcl])
      obtain ⟨e, he, hk2⟩ := (F.ok.mem kk).mp hk
      obtain ⟨t, ht⟩ := Value.isStrOf_shape (x := kk) (v := e.2) hk2
      have hv : e.2 ∈ vs := pm.mem_iff.mpr (List.mem_map.mpr ⟨e, he, rfl⟩)
      have gen : ∀ {us : List Value} {ds : List Nat}, PySem.W.EachIs (fun v c => ∃ t, v = Value.str (sg c) t) us ds → ∀ w ∈ us, ∃ cc ∈ ds, ∃ t, w = Value.str (sg cc) t := by
        intro us ds hh
        induction hh with
        | nil => intro w hw; simp at hw
        | cons h _ ih =>
          intro w hw
          rcases List.mem_cons.mp hw with e | e
          · subst e
            exact ⟨_, List.mem_cons_self, h⟩
          · obtain ⟨cc, h4, h5⟩ := ih w e
            exact ⟨cc, List.mem_cons_of_mem _ h4, h5⟩
      obtain ⟨cc, h4, t2, h5⟩ := gen h2 _ hv
      rw [ht] at h5
      injection h5 with h6 h7
      rw [h6]
      exact List.mem_map.mpr ⟨cc, h4, rfl⟩
    have hnd : cs.Nodup := by
      have := hperm.nodup_iff.mpr F.nd
      exact (List.pairwise_map.mp this).imp fun h e => h (congrArg sg e)
    have hmem : ∀ x, x ∈ cs ↔ x ∈ z.cps.toList := fun x => by
      refine ⟨h3 x, fun hx => ?_⟩
      have : sg x ∈ l := (a4 (sg x)).mpr ⟨x, hx, rfl⟩
      obtain ⟨y, hy, e⟩ := List.mem_map.mp (hperm.mem_iff.mpr this)
      rw [← sg_inj e]
      exact hy
    have hsort : sortD (cs.map fun c => D.str (sg c)) (cs.map fun c => PyData.str (sg c)) = (asc z.cps.toList).map fun c => D.str (sg c) := by
      rw [sortD_sg hnd]
      rw [asc_eq (asc_asc cs) (asc_asc z.cps.toList) fun x => by rw [asc_mem, asc_mem, hmem]]
    refine sorted_tail (ok := ok) c.K.symm I2 (vals_sg h2) (dt_sg cs) (pys_sg cs) (sortB_sg fun cc hcc => List.all_eq_true.mp hc2 cc (h3 cc hcc)) (by show X.A.units + 1 + 70 < cLine; omega) ?_ fun p ys hn dy => ?_
    · rw [List.length_map, List.length_map, hcl, sizeLine_eq]
      omega
    · rw [hsort] at dy
      exact q p _ hn (Ext.new hn) (own_newL dy hn)
  · cases h1
end
end DL
set_option maxRecDepth 100000
set_option maxHeartbeats 4000000
set_option linter.all false
namespace DL
open PySem PySem.Spec PyProof.Rows L2
/-! ### isinstance -/
def tyName : D → Option String
  | .non => some "NoneType"
  | .bl _ => some "bool"
  | .int _ => some "int"
  | .str _ => some "str"
  | .lst _ => some "list"
  | .tup _ => some "tuple"
  | .dK _ _ => some "dict"
  | .dT _ _ => some "dict"
  | .ins _ _ _ => none
  | .deck => none
/-- an own class whose instances' type can be asked -/
structure TyIns (K : PySem.W.Frag) (C : Addr) : Prop where
  cl : Cls K C
  ha : PySem.W.findIn K (.ref C) "__class__" = some (some (.builtin "object.__class__"))
  hn : PySem.W.specialIn K (.builtin "object.__class__") "__get__" = some (some (.builtin "getset_descriptor.__get__"))
  htk : PySem.W.takesIn K (.builtin "object.__class__") = some true
  hm : PySem.W.mroIn K C (.type "object") = some true
def isiF (kb : String → Option Bool) (J : Str → Option Bool) (d : D) : Option Bool := match d with
  | .ins c _ _ => J c
  | d => (match tyName d with | some n => kb n | none => none)
section
variable {G : GC} {ok : Addr → Prop} {H : Hp}
theorem ty_of {d : D} {x : V} {n : String} (h : DtB G ok H d x) (e : tyName d = some n) : TyX G.K H x (.type n) := by
  cases d <;> simp only [tyName] at e <;> first | (cases e; done) | skip
  · cases e
    cases (show x = V.non from h)
    exact .base .non
  · cases e
    cases (show x = V.bl _ from h)
    exact .base (.bl _)
  · cases e
    cases (show x = V.int _ from h)
    exact .base (.int _)
  · cases e
    cases (show x = V.str _ from h.1)
    exact .base (.str _)
  · cases e
    obtain ⟨a, e1, xs, e2, _⟩ := h
    subst e1
    exact .base (.lst e2)
  · cases e
    obtain ⟨a, xs, e1, e2, _⟩ := h
    subst e1
    rcases e2 with e2 | e2
    · exact .base (.tup e2)
    · rcases e2.1 (fun _ => none) with z | ⟨o, its, m, hk, hc, _⟩
      · rcases z with z | ⟨_, z⟩ <;> cases z
      · exact .kTuple hk hc
  · cases e
    obtain ⟨a, e1, us, e2, _⟩ := h
    subst e1
    exact .base (.dK e2)
  · cases e
    obtain ⟨a, e1, us, e2, _⟩ := h
    subst e1
    exact .base (.dT e2)
theorem isi_ok {u : Value} {kb : String → Option Bool} {J : Str → Option Bool} (hk : ∀ n b, kb n = some b → PySem.W.kitOne G.K (.type n) u = some b)
    (hj : ∀ c b, J c = some b → ∀ C, G.ct c = some C → TyIns G.K C ∧ PySem.W.kitOne G.K (.ref C) u = some b) :
    ∀ d b, isiF kb J d = some b → ∀ ok H x, DtB G ok H d x → ∃ ty, TyX G.K H x ty ∧ PySem.W.kitOne G.K ty u = some b := by
  intro d b e ok H x hx
  have base : ∀ n, tyName d = some n → kb n = some b → ∃ ty, TyX G.K H x ty ∧ PySem.W.kitOne G.K ty u = some b := fun n h1 h2 => ⟨_, ty_of hx h1, hk n b h2⟩
  cases d with
  | ins c ns vs =>
    obtain ⟨a, C, dx, us, e1, h1, h2, _⟩ := hx
    subst e1
    obtain ⟨t, h3⟩ := hj c b e C h1
    exact ⟨_, .base (.ins h2 t.cl t.ha t.hn t.htk t.hm), h3⟩
  | deck => cases e
  | _ => exact base _ rfl e
end
end DL
set_option maxRecDepth 100000
set_option maxHeartbeats 4000000
set_option linter.all false
namespace DL
open PySem PySem.Spec PyProof.Rows L2 HT
/-! ### data with empty dicts in it, as it is read -/
mutual
def D.px : D → Option PyData
  | .non => some .none
  | .bl b => some (.bool b)
  | .int i => some (.int i)
  | .str s => some (.str s)
  | .lst ds => match D.pxs ds with | some xs => some (.list xs) | none => none
  | .tup ds => match D.pxs ds with | some xs => some (.tuple xs) | none => none
  | .dK ks vs => match ks, vs with | [], [] => some (.dict []) | _, _ => none
  | .dT _ _ => none
  | .ins _ _ _ => none
  | .deck => none
def D.pxs : List D → Option (List PyData)
  | [] => some []
  | d :: ds => match D.px d, D.pxs ds with | some a, some as => some (a :: as) | _, _ => none
end
def SmOk (K : PySem.W.Frag) : Prop := ∃ o, K.lookup sysModules = some o ∧ o.cls = .type "dict"
section
variable {G : GC} {P : Program} {wd : World} {base : Heap} {k : Nat} {X : Cx} {W : WX} {ok : Addr → Prop} {H : Hp} {pins : List (Addr × Obj)} {σ : L2.St} {s : Shared}
theorem not_sm (I : Inv X pins σ H s) (sm : SmOk X.K) {a : Addr} {o : Obj} (h : s.heap.get? a = some o) (hc : o.cls = .type "list") : a ≠ sysModules := by
  rintro rfl
  obtain ⟨q, h1, h2⟩ := sm
  have := I.kIn _ _ h1
  rw [h] at this
  cases this
  rw [hc] at h2
  exact absurd h2 (by decide)
mutual
theorem Dt.rds (I : Inv X pins σ H s) (hK : X.K = G.K) (sm : SmOk X.K) : ∀ (d : D) (v : V) (u : Value) (p : PyData), Dt G ok H d v → RelV v u → d.px = some p → ∃ as, Reads s.heap u p as ∧ sysModules ∉ as
  | .non, v, u, p, h, r, e => by
    cases (show v = V.non from h); cases (show some PyData.none = some p from e); cases (show u = Value.none from r)
    exact ⟨[], .none, by simp⟩
  | .bl b, v, u, p, h, r, e => by
    cases (show v = V.bl b from h); cases (show some (PyData.bool b) = some p from e); cases (show u = Value.bool b from r)
    exact ⟨[], .bool b, by simp⟩
  | .int i, v, u, p, h, r, e => by
    cases (show v = V.int i from h); cases (show some (PyData.int i) = some p from e)
    obtain ⟨t, rfl⟩ := (show ∃ t, u = Value.int i t from r)
    exact ⟨[], .int i t, by simp⟩
  | .str z, v, u, p, h, r, e => by
    cases (show v = V.str z from h.1); cases (show some (PyData.str z) = some p from e)
    obtain ⟨t, rfl⟩ := (show ∃ t, u = Value.str z t from r)
    exact ⟨[], .str z t, by simp⟩
  | .lst ds, v, u, p, h, r, e => by
    obtain ⟨a, xs, e1, _, e2, e3⟩ := h
    subst e1
    cases (show u = Value.ref a from r)
    rw [D.px] at e
    cases e4 : D.pxs ds with
    | none => rw [e4] at e; cases e
    | some ps =>
      rw [e4] at e
      cases e
      obtain ⟨its, rv, ⟨o, n, ho, hc, _, hd⟩, _⟩ := I.list (sqL_of (G := { G with K := X.K }) e2)
      obtain ⟨as, q1, q2⟩ := DtL.rds I hK sm ds xs its ps e3 rv e4
      refine ⟨a :: as, Reads.list ho hc hd q1, fun z => ?_⟩
      rcases List.mem_cons.mp z with z | z
      · exact not_sm I sm ho hc z.symm
      · exact q2 z
  | .tup ds, v, u, p, h, r, e => by
    obtain ⟨a, xs, e1, e2, e3⟩ := h
    subst e1
    cases (show u = Value.ref a from r)
    rw [D.px] at e
    cases e4 : D.pxs ds with
    | none => rw [e4] at e; cases e
    | some ps =>
      rw [e4] at e
      cases e
      obtain ⟨its, rv, ⟨o, ho, hc, n, hd⟩, _⟩ := I.tuple (a := a) (xs := xs) (by rw [hK]; exact sqT_of e2)
      obtain ⟨as, q1, q2⟩ := DtL.rds I hK sm ds xs its ps e3 rv e4
      exact ⟨as, Reads.tuple ho hc hd q1, q2⟩
  | .dK ks vs, v, u, p, h, r, e => by
    cases ks with
    | cons k ks => rw [D.px] at e <;> first | cases e | (intros; contradiction)
    | nil =>
      cases vs with
      | cons d ds => rw [D.px] at e <;> first | cases e | (intros; contradiction)
      | nil =>
        rw [D.px] at e
        cases e
        obtain ⟨a, us, e1, _, e2, e3, e4⟩ := h
        subst e1
        cases (show u = Value.ref a from r)
        have eu : us = [] := by simpa using e3
        subst eu
        obtain ⟨_, hs, kvs, rel, o, es, ep, h1, h2, h3, _, h5, _⟩ := dk_of I.hok e2
        cases rel
        have ee : es.toList = [] := by
          cases hh : es.toList with
          | nil => rfl
          | cons z zs => rw [hh] at h5; cases h5
        refine ⟨[a], Reads.dict (as := []) (bs := []) (kvs := []) h1 h2.1 h3 (by rw [ee]; exact .nil) (by rw [ee]; exact .nil), fun z => ?_⟩
        have z : sysModules = a := by simpa using z
        rw [← z] at hs
        simp at hs
  | .dT _ _, v, u, p, h, r, e => by rw [D.px] at e; cases e
  | .ins _ _ _, v, u, p, h, r, e => by rw [D.px] at e; cases e
  | .deck, v, u, p, h, r, e => by rw [D.px] at e; cases e
theorem DtL.rds (I : Inv X pins σ H s) (hK : X.K = G.K) (sm : SmOk X.K) : ∀ (ds : List D) (vs : List V) (us : List Value) (ps : List PyData), DtL G ok H ds vs → Vals vs us → D.pxs ds = some ps → ∃ as, ReadsAll s.heap us ps as ∧ sysModules ∉ as
  | [], vs, us, ps, h, r, e => by
    rw [show vs = [] from h] at r
    cases r
    rw [D.pxs] at e
    cases e
    exact ⟨[], .nil, by simp⟩
  | d :: ds, vs, us, ps, h, r, e => by
    obtain ⟨v, w, e1, e2, e3⟩ := h
    subst e1
    rw [D.pxs] at e
    cases e4 : D.px d with
    | none => rw [e4] at e; cases e
    | some q =>
      cases e5 : D.pxs ds with
      | none => rw [e4, e5] at e; cases e
      | some qs =>
        rw [e4, e5] at e
        cases e
        cases r with
        | cons r1 r2 =>
          obtain ⟨as, a1, a2⟩ := Dt.rds I hK sm d v _ q e2 r1 e4
          obtain ⟨bs, b1, b2⟩ := DtL.rds I hK sm ds w _ qs e3 r2 e5
          exact ⟨as ++ bs, .cons a1 b1, fun z => (List.mem_append.mp z).elim a2 b2⟩
end
theorem DtB.up {d : D} {v : V} (h : DtB G ok H d v) : Dt G (fun _ => True) H d v := by
  have k : ∀ a o, ok a → H a = some o → True ∧ H a = some o := fun _ _ _ e => ⟨trivial, e⟩
  cases d with
  | lst ds => obtain ⟨a, e1, xs, e2, e3⟩ := h; exact ⟨a, xs, e1, trivial, e2, e3.mono k fun _ _ q => q⟩
  | dK ks ds => obtain ⟨a, e1, us, e2, e4, e3⟩ := h; exact ⟨a, us, e1, trivial, e2, e4, e3.mono k fun _ _ q => q⟩
  | dT ks ds => obtain ⟨a, e1, us, e2, e4, e3⟩ := h; exact ⟨a, us, e1, trivial, e2, e4, e3.mono k fun _ _ q => q⟩
  | ins c ns ds => obtain ⟨a, C, dx, us, e1, e2, e3, e4, e5⟩ := h; exact ⟨a, C, dx, us, e1, trivial, e2, e3, e4, e5.mono k fun _ _ q => q⟩
  | _ => exact Dt.mono k (fun _ _ q => q) _ _ h
/-! ### repr -/
def reprX (x : D) : Option D := match x.px with
  | some p => if p.showable && decide (p.depth ≤ 64) && decide (p.shown.length ≤ lim) then some (.str p.shown) else none
  | none => none
theorem repr_okX (c : Cxy G P wd base k X W) (sm : SmOk G.K) : Op1 G X W (fun u => call (.builtin "repr") [u]) (fun a w => RW.of (reprX a) w) := by
  rintro pins s σ H x u Q I rx ⟨Bd, ρ, w, dx, a, hx, q⟩
  have hK : X.K = G.K := c.K
  cases e : reprX dx with
  | none => simp only [RW.of, e, RW.at] at q; exact q.elim
  | some d =>
    simp only [RW.of, e, RW.at] at q
    unfold reprX at e
    split at e
    · rename_i p hp
      split at e
      · rename_i hz
        cases e
        simp only [Bool.and_eq_true, decide_eq_true_eq, lim_eq] at hz
        obtain ⟨⟨hs, hd⟩, hl⟩ := hz
        have fin : ∀ (s' : Shared) (t : Tok), Inv X pins σ H s' → EP X pins σ Q (.str p.shown t) s' := fun s' t I' => ⟨.str p.shown, H, I', ⟨t, rfl⟩, PostE.next a q Ext.refl ⟨rfl, hl⟩⟩
        have hu := c.room.un
        obtain ⟨as, rd, ns⟩ := Dt.rds I hK (by rw [hK]; exact sm) dx x u p hx.up rx hp
        cases rd with
        | none => exact PySem.P.repr_of_none (fin _ _ (I.tok _))
        | bool b => exact PySem.P.repr_of_bool (fin _ _ (I.tok _))
        | int i t => exact PySem.P.repr_of_int (by simpa [PyData.showable] using hs) (fin _ _ (I.tok _))
        | str z t => exact PySem.P.repr_of_str (fin _ _ (I.tok _)) hl
        | list h1 h2 h3 h4 => exact PySem.repr_of_reads' (.list h1 h2 h3 h4) hs (fun _ => ns) c.gd (by omega) (fun _ _ e => e) (fun h' t tk kp => fin _ _ (I.kept kp)) hl
        | tuple h1 h2 h3 h4 => exact PySem.repr_of_reads' (.tuple h1 h2 h3 h4) hs (fun _ => ns) c.gd (by omega) (fun _ _ e => e) (fun h' t tk kp => fin _ _ (I.kept kp)) hl
        | dict h1 h2 h3 h4 h5 => exact PySem.repr_of_reads' (.dict h1 h2 h3 h4 h5) hs (fun _ => ns) c.gd (by omega) (fun _ _ e => e) (fun h' t tk kp => fin _ _ (I.kept kp)) hl
      · cases e
    · cases e
/-! ### max of a list or a tuple of ints -/
def intsOf : List D → Option (List Int)
  | [] => some []
  | .int i :: ds => (intsOf ds).map (i :: ·)
  | _ :: _ => none
theorem intsOf_px : ∀ {ds : List D} {is : List Int}, intsOf ds = some is → D.pxs ds = some (is.map PyData.int)
  | [], is, h => by cases h; rfl
  | d :: ds, is, h => by
    cases d <;> first | (cases h; done) | skip
    rename_i i
    rw [intsOf] at h
    cases e : intsOf ds with
    | none => rw [e] at h; cases h
    | some js =>
      rw [e] at h
      cases h
      rw [D.pxs, D.px, intsOf_px e]
      rfl
def maxI : D → Option D
  | .lst ds => (match intsOf ds with | some (i :: is) => some (.int (is.foldl max i)) | _ => none)
  | .tup ds => (match intsOf ds with | some (i :: is) => some (.int (is.foldl max i)) | _ => none)
  | _ => none
theorem depthAll_ints : ∀ is : List Int, PyData.depthAll (is.map PyData.int) = 0 ∨ PyData.depthAll (is.map PyData.int) = 1
  | [] => by left; rfl
  | i :: is => by
    have := depthAll_ints is
    rw [List.map_cons, PyData.depthAll]
    have e : PyData.depth (PyData.int i) = 0 ∨ PyData.depth (PyData.int i) = 1 := by
      first | exact .inl rfl | exact .inr rfl
    omega
theorem alike_ints (i : Int) (is : List Int) : PySem.W.AlikeAll (PyData.int i :: is.map PyData.int) := by
  have e : PyData.int i :: is.map PyData.int = (i :: is).map PyData.int := rfl
  rw [e]
  refine ⟨fun x hx y hy => ?_, fun x hx => ?_⟩
  · obtain ⟨a, _, rfl⟩ := List.mem_map.mp hx
    obtain ⟨b, _, rfl⟩ := List.mem_map.mp hy
    rfl
  · obtain ⟨a, _, rfl⟩ := List.mem_map.mp hx
    intro z; cases z
theorem max_okX (c : Cxy G P wd base k X W) (sm : SmOk G.K) : Op1 G X W (fun u => call (.builtin "max") [u]) (fun a w => RW.of (maxI a) w) := by
  rintro pins s σ H x u Q I rx ⟨Bd, ρ, w, dx, a, hx, q⟩
  have hK : X.K = G.K := c.K
  cases e : maxI dx with
  | none => simp only [RW.of, e, RW.at] at q; exact q.elim
  | some d =>
    simp only [RW.of, e, RW.at] at q
    have hu := c.room.un
    have hh := I.ok.hd c.calm
    have fin : ∀ (h' : Heap) (tk : Nat) (i : Int) (is : List Int) (v : Value) (bs : List Addr), d = .int (is.foldl max i) → Reads h' v (PySem.W.maxD (.int i) (is.map PyData.int)) bs → (∀ b o, s.heap.get? b = some o → h'.get? b = some o) → EP X pins σ Q v { s with heap := h', toks := tk } := fun h' tk i is v bs hd r kp => by
      rw [PySem.W.maxD_ints] at r
      cases r with
      | int _ t => exact ⟨.int _, H, I.kept kp, ⟨t, rfl⟩, PostE.next a q Ext.refl (by rw [hd]; exact rfl)⟩
    unfold maxI at e
    split at e
    · rename_i ds
      split at e
      · rename_i i is hi
        cases e
        obtain ⟨ad, xs, e1, _, e2, e3⟩ := hx.up
        subst e1
        cases (show u = Value.ref ad from rx)
        obtain ⟨its, rv, pl, _⟩ := I.list (sqL_of (G := { G with K := X.K }) e2)
        obtain ⟨as, q1, _⟩ := DtL.rds I hK (by rw [hK]; exact sm) ds xs its _ e3 rv (intsOf_px hi)
        have dd := depthAll_ints (i :: is)
        rw [List.map_cons] at dd q1
        exact PySem.W.max_list_data hh pl.isList q1 (alike_ints i is) (by omega) fun j v h' tk bs _ r kp => fin h' tk i is v bs rfl r kp
      · cases e
    · rename_i ds
      split at e
      · rename_i i is hi
        cases e
        obtain ⟨ad, xs, e1, e2, e3⟩ := hx.up
        subst e1
        cases (show u = Value.ref ad from rx)
        obtain ⟨its, rv, pl, _⟩ := I.tuple (a := ad) (xs := xs) (by rw [hK]; exact sqT_of e2)
        obtain ⟨as, q1, _⟩ := DtL.rds I hK (by rw [hK]; exact sm) ds xs its _ e3 rv (intsOf_px hi)
        have dd := depthAll_ints (i :: is)
        rw [List.map_cons] at dd q1
        exact PySem.W.max_tuple_data hh pl q1 (alike_ints i is) (by omega) fun j v h' tk bs _ r kp => fin h' tk i is v bs rfl r kp
      · cases e
    · cases e
end
end DL
set_option maxRecDepth 100000
set_option maxHeartbeats 4000000
set_option linter.all false
namespace DL
open PySem PySem.Spec PyProof.Rows L2
/-! ### the same data under another own instance -/
section
variable {G G' : GC} {ok : Addr → Prop} {H : Hp}
mutual
theorem Dt.same (hK : G'.K = G.K) (hc : G'.ct = G.ct) (hd : G'.dk = G.dk) : ∀ (d : D) (v : V), Dt G ok H d v → Dt G' ok H d v
  | .non, v, h => h
  | .bl b, v, h => h
  | .int i, v, h => h
  | .str s, v, h => h
  | .deck, v, h => by
    show v = .ref G'.dk
    rw [hd]
    exact h
  | .lst ds, v, h => by
    obtain ⟨a, xs, e, o, q, r⟩ := h
    exact ⟨a, xs, e, o, q, DtL.same hK hc hd ds xs r⟩
  | .tup ds, v, h => by
    obtain ⟨a, xs, e, o, r⟩ := h
    exact ⟨a, xs, e, by rw [hK]; exact o, DtL.same hK hc hd ds xs r⟩
  | .dK ks ds, v, h => by
    obtain ⟨a, us, e, o, q, k, r⟩ := h
    exact ⟨a, us, e, o, q, k, DtL.same hK hc hd ds _ r⟩
  | .dT ks ds, v, h => by
    obtain ⟨a, us, e, o, q, k, r⟩ := h
    exact ⟨a, us, e, o, q, k, DtL.same hK hc hd ds _ r⟩
  | .ins c ns ds, v, h => by
    obtain ⟨a, C, dx, us, e, o, hC, q, k, r⟩ := h
    exact ⟨a, C, dx, us, e, o, by rw [hc]; exact hC, q, k, DtL.same hK hc hd ds _ r⟩
theorem DtL.same (hK : G'.K = G.K) (hc : G'.ct = G.ct) (hd : G'.dk = G.dk) : ∀ (ds : List D) (vs : List V), DtL G ok H ds vs → DtL G' ok H ds vs
  | [], vs, h => h
  | d :: ds, vs, h => by
    obtain ⟨v, r, e, q, t⟩ := h
    exact ⟨v, r, e, Dt.same hK hc hd d v q, DtL.same hK hc hd ds r t⟩
end
end
/-- an instance by its __init__ -/
def mkR (r : RS) : RW := match r with
  | .nx ρ w => (match ρ[(0 : Nat)]? with | some (.own d) => if kindD d = 8 then .ok d w else .stuck | _ => .stuck)
  | .exc x _ w => .exc x w
  | _ => .stuck
def mkB (Γ : Gm) (cname : Str) (body : PYs) (np n : Nat) : Fn := fun ds w => if ds.length + 1 = np then mkR (exSs Γ body (.own (.ins cname [] []) :: (ds.map .dat ++ List.replicate (n - np) .emp)) w) else .stuck
def PostM (G : GC) (Bd : Addr → Prop) (x : Addr) (H : Hp) (r : RW) (Q : VK) (E : XK) : Prop := match r with
  | .ok d w => ∀ H', Stp G [x] H H' → DkD G H' w → OwD G (fun a => ¬ Bd a ∧ a ≠ x) H' d x → Q .non H'
  | .exc e w => ∀ cls dd H', Stp G [x] H H' → DkD G H' w → ExD G (fun a => ¬ Bd a) H' e cls dd → E cls dd H'
  | .stuck => False
section
variable {G : GC} {P : Program} {wd : World} {base : Heap} {k : Nat} {N : List Str} {Γ : Gm}
theorem owns_dats : ∀ (ds : List D) (m : Nat) (σ : L2.St), owns (ds.map Sl.dat ++ List.replicate m Sl.emp) σ = []
  | [], m, σ => by
    induction m generalizing σ with
    | zero => cases σ <;> rfl
    | succ m ih =>
      cases σ with
      | nil => rfl
      | cons o σ => exact ih σ
  | d :: ds, m, [] => rfl
  | d :: ds, m, o :: σ => owns_dats ds m σ
theorem start_init {x C dx : Addr} {cname : Str} {ds : List D} {vs : List V} {Bd : Addr → Prop} {H : Hp} (hl : ds.length + 1 ≤ N.length) (hx : G.sx = x) (hct : G.ct cname = some C) (hH : H x = some (.ins C dx [])) (hb : ¬ Bd x) (dl : DtL G (fun a => ¬ Bd a ∧ a ≠ x) H ds vs) :
    EnD G Bd H (.own (.ins cname [] []) :: (ds.map .dat ++ List.replicate (N.length - (ds.length + 1)) .emp)) (start N (.ref x :: vs)) ∧ owns (.own (.ins cname [] []) :: (ds.map .dat ++ List.replicate (N.length - (ds.length + 1)) .emp)) (start N (.ref x :: vs)) = [x] := by
  have ow : owns (.own (.ins cname [] []) :: (ds.map .dat ++ List.replicate (N.length - (ds.length + 1)) .emp)) (start N (.ref x :: vs)) = [x] := by
    show x :: owns (ds.map .dat ++ List.replicate (N.length - (ds.length + 1)) .emp) _ = [x]
    rw [owns_dats]
  refine ⟨⟨?_, by rw [ow]; simp, fun a ha => ?_⟩, ow⟩
  · rw [ow]
    refine ⟨⟨x, rfl, C, dx, [], hct, hH, rfl, rfl, hx.symm⟩, ?_⟩
    have hv := dl.length
    refine EnDs.mk ?_ fun i s o h1 h2 => ?_
    · show (ds.map Sl.dat ++ List.replicate (N.length - (ds.length + 1)) Sl.emp).length = (vs.map some ++ List.replicate (N.length - (vs.length + 1)) none).length
      rw [List.length_append, List.length_append, List.length_map, List.length_map, List.length_replicate, List.length_replicate, hv]
    · have h2 : (vs.map some ++ List.replicate (N.length - (vs.length + 1)) (none : Option V))[i]? = some o := h2
      by_cases hi : i < ds.length
      · rw [List.getElem?_append_left (by rw [List.length_map]; exact hi), List.getElem?_map] at h1
        rw [List.getElem?_append_left (by rw [List.length_map, ← hv]; exact hi), List.getElem?_map] at h2
        cases e1 : vs[i]? with
        | none => rw [e1] at h2; cases h2
        | some v =>
          obtain ⟨d, e2, e3⟩ := dl.get e1
          rw [e1] at h2
          rw [e2] at h1
          cases h1
          cases h2
          exact ⟨v, rfl, e3.mono (fun a o k e => ⟨⟨k.1, by simpa using k.2⟩, e⟩) fun _ _ e => e⟩
      · rw [List.getElem?_append_right (by rw [List.length_map]; omega), List.getElem?_replicate] at h1
        split at h1
        · cases h1
          trivial
        · cases h1
  · rw [ow] at ha
    rw [List.mem_singleton.mp ha]
    exact hb
theorem init_run {f : Addr} {cname name qual : Str} {params : Arguments} {body : List Stmt} {scope : Scope} {dV kV doc pm cdv ct oc : Value} {an od : Option Addr} {osl : Array (Option Value)} {ps : List Str} {pb : PYs}
    (lk : G.K.lookup f = some ⟨oc, od, .func (PySem.W.fnOf name qual params body scope dV kV doc pm an cdv ct), osl⟩) (hcd : PySem.W.codeIn G.K cdv qual = true) (S : FnScope N ps scope) (M : GmOk G P wd base k Γ) (he : erSs Γ true N scope pb body = true)
    (A : Around) (outer : List Env) (s : Shared) (H : Hp) (args : Args) (us : List Value) (vs : List V) (Q : VK) (E : XK) (Bd : Addr → Prop) (ds : List D) (w : DW) (x C dx : Addr)
    (hg : A.guards = some []) (hr : Room (k + 1) A) (e0 : Env0 P wd G.K G.mg base A outer s H) (hb : BindsTo s (PySem.W.fnOf name qual params body scope dV kV doc pm an cdv ct) args (ps.zip (.ref x :: us))) (r : Vals vs us)
    (hbd : BdOk G Bd H) (hdk : DkD G H w) (hx : G.sx = x) (hct : G.ct cname = some C) (hH : H x = some (.ins C dx [])) (nb : ¬ Bd x) (dl : DtL G (fun a => ¬ Bd a ∧ a ≠ x) H ds vs) (hp : PostM G Bd x H (mkB Γ cname pb ps.length N.length ds w) Q E) :
    codeAny (model P wd) A (.call (.ref f) args) (CR (L2.CX P wd) outer P wd H s Q E) s := by
  have plen : ps.length ≤ N.length := by
    have z := congrArg List.length S.pre
    rw [List.length_take] at z
    omega
  have hlen : ds.length + 1 = ps.length := by
    unfold mkB at hp
    by_cases hl : ds.length + 1 = ps.length
    · exact hl
    · rw [if_neg hl] at hp
      exact hp.elim
  have hvl : (V.ref x :: vs).length = ps.length := by rw [List.length_cons, ← dl.length, hlen]
  have KX : G.K.In s.heap := e0.mod.kin.keeps fun b o e => (e0.bs b o e).1
  have lim : s.heap.NoLimit := e0.mod.nolimit.keeps fun b o e => (e0.bs b o e).1
  have kinds : ∀ y ∈ ps.zip (Value.ref x :: us), scope.names.lookup y.1 = some .local ∨ (scope.names.lookup y.1 = some .cell ∧ ((cellsFrom (s.heap.objs.size + 1) scope.names []).lookup y.1).isSome = true) := by
    rintro ⟨n, v⟩ hy
    rcases S.par n (List.of_mem_zip hy).1 with z | z
    · exact .inl z
    · exact .inr ⟨z, PySem.W.cellsFrom_some _ _ _ (.inl z)⟩
  refine codeAny_call_function hr.depth (KX _ _ lk) rfl S.co S.gen rfl (PySem.W.codeRec_of KX hcd) (hb _ _ _ _ ?_)
  refine wpAny_newFunctionEnv_cells S.kind kinds fun env henv s1 x1 => ?_
  subst henv
  refine ⟨lim.keeps x1.toInCall.keep, codeAny_func ?_⟩
  have I : Inv (cxOf (L2.CX P wd) P wd G.K G.mg base N qual scope f cdv A outer s H E) [] (start N (V.ref x :: vs)) H s1 := inv_start S hr.hd e0 hvl (.cons rfl r) x1
  have c : Cxx G P wd base k N scope true (cxOf (L2.CX P wd) P wd G.K G.mg base N qual scope f cdv A outer s H E) (fun cls dd _ H' => E cls dd H') :=
    { K := rfl, mg := rfl, prog := rfl, w := rfl, base := rfl, gd := hg, room := hr.deeper _, calm := rfl, tk := takes_of rfl rfl rfl rfl, po := passes_of rfl,
      xN := rfl, nd := S.nd, sc := rfl, kf := S.kind, fnl := fun _ _ => rfl }
  obtain ⟨en0, ow0⟩ := start_init (N := N) (by omega) hx hct hH nb dl
  have at0 : At G Bd (.own (.ins cname [] []) :: (ds.map .dat ++ List.replicate (N.length - (ds.length + 1)) .emp)) w (start N (.ref x :: vs)) H := ⟨hbd, en0, hdk⟩
  have post : PostS G (fun cls dd _ H' => E cls dd H') Bd (.own (.ins cname [] []) :: (ds.map .dat ++ List.replicate (N.length - (ds.length + 1)) .emp)) (start N (.ref x :: vs)) H (exSs Γ pb (.own (.ins cname [] []) :: (ds.map .dat ++ List.replicate (N.length - (ds.length + 1)) .emp)) w) { nx := fun _ H' => Q .non H', rt := Q } := by
    unfold mkB at hp
    rw [if_pos hlen, ← hlen] at hp
    cases ee : exSs Γ pb (.own (.ins cname [] []) :: (ds.map .dat ++ List.replicate (N.length - (ds.length + 1)) .emp)) w with
    | nx ρ w' =>
      rw [ee] at hp
      simp only [mkR] at hp
      cases e1 : ρ[(0 : Nat)]? with
      | none => rw [e1] at hp; exact hp.elim
      | some sl =>
        rw [e1] at hp
        cases sl with
        | emp => exact hp.elim
        | dat d => exact hp.elim
        | own d =>
          intro σ' H' s' en sb dk
          rw [ow0] at s'
          obtain ⟨o, h1, ad, h2, h3⟩ := en.sl.get e1
          subst h2
          have ma := mem_owns e1 h1
          by_cases hk : kindD d = 8
          · simp only [hk, if_true] at hp
            cases d <;> first | (exact absurd hk (by simp only [kindD]; omega)) | skip
            obtain ⟨C2, dx2, us2, q1, q2, q3, q4, q5⟩ := h3
            rw [hx] at q5
            subst q5
            refine hp H' s' dk ⟨C2, dx2, us2, q1, q2, q3, q4.mono (fun b o k e => ⟨⟨k.1, fun z => k.2 (by rw [z]; exact ma)⟩, e⟩) fun _ _ e => e, hx.symm⟩
          · simp only [hk, if_false] at hp
            exact hp.elim
    | rt d w' => rw [ee] at hp; exact hp.elim
    | exc xx ρ w' =>
      rw [ee] at hp
      intro cls dd σ' H' s' en sb dk ex
      rw [ow0] at s'
      refine hp cls dd H' s' dk ?_
      obtain ⟨C2, h1, h2, h3⟩ := ex
      refine ⟨C2, h1, h2, h3.imp id ?_⟩
      rintro ⟨d, uu, h4, h5, h6, h7⟩
      exact ⟨d, uu, h4, h5, h6, h7.mono (fun a o k e => ⟨k.1, e⟩) fun _ _ e => e⟩
    | bk ρ w' => rw [ee] at hp; exact hp.elim
    | ct ρ w' => rw [ee] at hp; exact hp.elim
    | stuck => rw [ee] at hp; exact hp.elim
  refine wpAny_mono ((soundSs M pb c he).run [] s1 (start N (.ref x :: vs)) H _ I ⟨Bd, _, w, at0, post⟩) (fun fl s' hs => ?_) fun e s' hs => hs
  have fin : ∀ {σ' : L2.St} {H' : Hp} {v : V} {u : Value}, Inv (cxOf (L2.CX P wd) P wd G.K G.mg base N qual scope f cdv A outer s H E) [] σ' H' s' → RelV v u → Q v H' → CE outer P wd H s Q u s' :=
    fun {σ' H' v u} J rv q => ⟨v, H', J.os, J.bare, J.base, J.hok, rv, q⟩
  cases fl with
  | ret u =>
    obtain ⟨v, σ', H', J, rv, q⟩ := hs
    exact fin J rv q
  | next =>
    obtain ⟨σ', H', J, q⟩ := hs
    exact fin (v := V.non) (u := Value.none) J rfl q
  | brk =>
    obtain ⟨_, _, _, q⟩ := hs
    exact False.elim q
  | cont =>
    obtain ⟨_, _, _, q⟩ := hs
    exact False.elim q
end
end DL
set_option maxRecDepth 100000
set_option maxHeartbeats 4000000
set_option linter.all false
namespace DL
open PySem PySem.Spec PyProof.Rows L2
section
variable {G : GC} {P : Program} {wd : World} {base : Heap} {k : Nat} {N : List Str} {Γ : Gm}
theorem make_guards {A : Around} {C : Addr} {us : List Value} {kw : List (Str × Value)} (h : A.guards = some []) : (A.under (.builtin "type.__call__" ⟨.ref C :: us, kw⟩)).guards = some [] := by
  first | exact h | simpa [Around.under, Code.weight, Code.isCreation, Code.isGuard, Code.isCaller, Code.frames, Code.isFrame, guardIds] using h
/-- a class, called -/
theorem mk_of {f C : Addr} {cname name qual : Str} {params : Arguments} {body : List Stmt} {scope : Scope} {dV kV doc pm cdv ct oc : Value} {an od : Option Addr} {osl : Array (Option Value)} {ps : List Str} {pb : PYs} {ds : List Value} {dvs : List V} {dd : List D}
    (lk : G.K.lookup f = some ⟨oc, od, .func (PySem.W.fnOf name qual params body scope dV kV doc pm an cdv ct), osl⟩) (hcd : PySem.W.codeIn G.K cdv qual = true) (S : FnScope N ps scope) (M : ∀ x, GmOk { G with sx := x } P wd base k Γ) (he : erSs Γ true N scope pb body = true)
    (mk : L2.Mk G.K C f) (hct : G.ct cname = some C) (hb : Binds G.K (PySem.W.fnOf name qual params body scope dV kV doc pm an cdv ct) ps ds) (hd : Vals dvs ds) (hdd : ∀ ok H, DtL G ok H dd dvs) :
    CalD G P wd base (k + 2) (.ref C) (fun as w => mkB Γ cname pb ps.length N.length (as ++ dd) w) := by
  rintro X W c pins s σ H vs us Q Bd ρ w as I r a hv q
  have q : PostE G W (Dt G) Bd ρ σ H ((mkB Γ cname pb ps.length N.length (as ++ dd) w).at ρ) Q := q
  have I2 := Inv.made (C := C) I
  have hxn : H (s.heap.objs.size + 1) = none := I.hok.fresh (Nat.le_succ _)
  have hdn : H s.heap.objs.size = none := I.hok.fresh (Nat.le_refl _)
  have hxd : s.heap.objs.size + 1 ≠ s.heap.objs.size := Nat.succ_ne_self _
  have ext : Ext H (upd (upd H s.heap.objs.size (.own (s.heap.objs.size + 1))) (s.heap.objs.size + 1) (.ins C s.heap.objs.size [])) := (Ext.new hdn).trans (Ext.new (by rw [upd_ne hxd]; exact hxn))
  have r2 : Vals (V.ref (s.heap.objs.size + 1) :: (vs ++ dvs)) (Value.ref (s.heap.objs.size + 1) :: (us ++ ds)) := .cons rfl (r.append hd)
  have hlen : (as ++ dd).length + 1 = ps.length := by
    unfold mkB at q
    by_cases hl : (as ++ dd).length + 1 = ps.length
    · exact hl
    · rw [if_neg hl] at q
      exact q.elim
  have hl : (Value.ref (s.heap.objs.size + 1) :: us ++ ds).length = ps.length := by
    rw [← hlen, List.cons_append, List.length_cons, List.length_append, List.length_append, hv.length, (hdd (fun _ => True) H).length, r.length, hd.length]
  have a1 := a.ext ext
  have cal := a1.callee
  have nb : ¬ BdC Bd (owns ρ σ) (s.heap.objs.size + 1) := fun z => z.elim (fun z => a.bd.there _ z hxn) fun z => owned_there a z hxn
  have mkr : L2.Mk X.K C f := by rw [c.K]; exact mk
  have e0 := I2.env0
  rw [c.K, c.mg, c.prog, c.w, c.base] at e0
  have kin := I2.kIn
  rw [c.K] at kin
  have hp : PostM { G with sx := s.heap.objs.size + 1 } (BdC Bd (owns ρ σ)) (s.heap.objs.size + 1) (upd (upd H s.heap.objs.size (.own (s.heap.objs.size + 1))) (s.heap.objs.size + 1) (.ins C s.heap.objs.size [])) (mkB Γ cname pb ps.length N.length (as ++ dd) w) (fun v H2 => v = .non ∧ Q (.ref (s.heap.objs.size + 1)) H2) (fun cls dd H' => W cls dd σ H') := by
    have step : ∀ H', Stp { G with sx := s.heap.objs.size + 1 } [s.heap.objs.size + 1] (upd (upd H s.heap.objs.size (.own (s.heap.objs.size + 1))) (s.heap.objs.size + 1) (.ins C s.heap.objs.size [])) H' → Stp G [] H H' := fun H' st =>
      Stp.trans (A := []) (B := [s.heap.objs.size + 1]) ext.stp ⟨st.keep, st.tup, st.stay⟩ fun b hb => .inr (by rw [List.mem_singleton.mp hb]; exact hxn)
    cases e : mkB Γ cname pb ps.length N.length (as ++ dd) w with
    | stuck => rw [e] at q; exact q.elim
    | exc xx w' =>
      rw [e] at q
      intro cls dd H' st dk ex
      have s0 := step H' st
      have dk' : DkD G H' w' := ⟨dk.dk, dk.gl⟩
      refine q cls dd H' (s0.sub fun b hb => by simp at hb) (a.behind s0 dk') (fun _ h => h) dk' ?_
      obtain ⟨C2, h1, h2, h3⟩ := ex
      refine ⟨C2, h1, h2, h3.imp id ?_⟩
      rintro ⟨d, uu, h4, h5, h6, h7⟩
      exact ⟨d, uu, h4, h5, h6, bdC_backL (DtL.same (G := { G with sx := s.heap.objs.size + 1 }) (G' := G) rfl rfl rfl _ _ h7)⟩
    | ok d w' =>
      rw [e] at q
      intro H' st dk ow
      have s0 := step H' st
      have dk' : DkD G H' w' := ⟨dk.dk, dk.gl⟩
      refine ⟨rfl, q (.ref (s.heap.objs.size + 1)) H' (s0.sub fun b hb => by simp at hb) (a.behind s0 dk') (fun _ h => h) dk' ?_⟩
      refine Dt.same (G := { G with sx := s.heap.objs.size + 1 }) (G' := G) rfl rfl rfl _ _ (OwD.toDt (ow.mono (ok' := okA Bd (owns ρ σ)) (fun b o k e => ⟨⟨fun z => k.1 (.inl z), fun z => k.1 (.inr z)⟩, e⟩) (fun _ _ e => e) rfl) (fresh_ok a hxn))
  have dl : DtL { G with sx := s.heap.objs.size + 1 } (fun b => ¬ BdC Bd (owns ρ σ) b ∧ b ≠ s.heap.objs.size + 1) (upd (upd H s.heap.objs.size (.own (s.heap.objs.size + 1))) (s.heap.objs.size + 1) (.ins C s.heap.objs.size [])) (as ++ dd) (vs ++ dvs) :=
    DtL.same (G := G) (G' := { G with sx := s.heap.objs.size + 1 }) rfl rfl rfl _ _ ((hv.mono (fun b o k e => ⟨⟨fun z => z.elim k.1 k.2, fun z => by rw [z, hxn] at e; cases e⟩, ext b o e⟩) fun b xs e => ext b _ e).append (hdd _ _))
  have run := init_run (G := { G with sx := s.heap.objs.size + 1 }) (f := f) lk hcd S (M _) he (X.A.under (.builtin "type.__call__" ⟨.ref C :: us, []⟩)) X.stack _ _ ⟨Value.ref (s.heap.objs.size + 1) :: us, []⟩ (us ++ ds) (vs ++ dvs) (fun v H2 => v = .non ∧ Q (.ref (s.heap.objs.size + 1)) H2) (fun cls dd H' => W cls dd σ H') (BdC Bd (owns ρ σ)) (as ++ dd) w (s.heap.objs.size + 1) C s.heap.objs.size
    (make_guards c.gd) (c.room.make C us []) (e0.make C us []) (hb _ (Value.ref (s.heap.objs.size + 1) :: us) kin hl) (r.append hd) ⟨cal.dk, cal.gl, cal.there⟩ ⟨a1.dk.dk, a1.dk.gl⟩ rfl hct upd_same nb dl hp
  rw [← c.prog, ← c.w] at run
  refine wpAny_call (make_map (f := f) I.kIn mkr.makes mkr.init (beq_iff_eq.mp mkr.fn) (codeAny_mono run fun rr s' hq' => ?_))
  cases rr with
  | error e => exact c.tk e s' (XE.of_call I2 (fun _ _ _ h => h) hq')
  | ok fl =>
    cases fl with
    | ret u =>
      obtain ⟨v, H', I3, rv, ev, q3⟩ := I2.after hq'
      subst ev
      exact ⟨rv, ⟨V.ref (s.heap.objs.size + 1), H', I3, rfl, q3⟩⟩
    | next => exact False.elim hq'
    | brk => exact False.elim hq'
    | cont => exact False.elim hq'
end
end DL
set_option maxRecDepth 100000
set_option maxHeartbeats 4000000
set_option linter.all false
namespace DL
open PySem PySem.Spec PyProof.Rows L2
theorem form_of {env : Env} {cpos : Pos} {es : List Expr} (hs : es.all notStar = true) (hl : es.length < 9) : methodCallForm (es.length + ([] : List Keyword).length) (backTo cpos (starEach es env)) (backToKw cpos (keywordEach [] env)) = true := by
  unfold methodCallForm
  have h1 : (backTo cpos (starEach es env)).all (fun x => !x.1) = true := by
    have := args_plain hs cpos env
    rw [← Bool.not_eq_true, List.any_eq_true] at this
    rw [List.all_eq_true]
    intro x hx
    cases hb : x.1 with
    | false => rfl
    | true => exact absurd ⟨x, hx, hb⟩ this
  rw [h1, show (backToKw cpos (keywordEach [] env)).all (fun x => x.1.isSome) = true from rfl]
  simp only [Bool.true_and, decide_eq_true_eq]
  show es.length + 0 + 0 < 30
  omega
theorem ht_of {o : Expr} {m : Str} {apos pos : Pos} {es : List Expr} {env : Env} (hc : notCall o = true) (hs : es.all notStar = true) (hl : es.length < 9) (ln : (apos.endLine == pos.line) = true) : ∃ pl : Sem Bool, eval (.Call (.Attribute o m apos) es [] pos) env = (do
      let ov ← eval o env
      standAt apos.atName
      let (f, first) ← holding [ov] (getMethod ov m pl)
      callWith pos f first (backTo pos (starEach es env)) (backToKw pos (keywordEach [] env))) := by
  refine ⟨do return (← importBound o env).getD true, ?_⟩
  rw [arm_eval_Call, show attributeBase o m env (eval o env) = eval o env from attr_plain hc _]
  unfold methodCall calleeOf methodCallPos
  rw [form_of hs hl, ln]
  rfl
section
variable {G : GC} {P : Program} {wd : World} {base : Heap} {k : Nat} {X : Cx} {W : WX}
/-- a method of an own class, by its def -/
theorem imth_rule {name : Str} {cp : Str → List Str → Bool} {F : D → List D → DW → RW} (c : Cxy G P wd base k X W)
    (hm : ∀ cn ns, cp cn ns = true → name ∉ ns ∧ ∀ C, G.ct cn = some C → ∃ g, Cls G.K C ∧ L2.Meth G.K C name g ∧ CalD G P wd base k (.ref g) (fun as w => match as with | x :: ds => F x ds w | [] => .stuck)) : ImthOk G X W name cp F := by
  intro o apos es cpos fo fs hc hline hlen ho hs
  obtain ⟨pl, ht⟩ := ht_of (o := o) (m := name) (apos := apos) (pos := cpos) (es := es) (env := X.env) hc hs.stars hlen hline
  refine ⟨fun pins s σ H Q I h => ?_⟩
  obtain ⟨Bd, ρ, w, a, q⟩ := h
  have q : PostE G W (Dt G) Bd ρ σ H ((fo ρ w).bind fun x ρ w => if clsD cp x then (seqL fs ρ w).bind fun ds ρ w => (F x ds w).at ρ else .stuck) Q := q
  have main : tD G W fo σ H fun x H1 => ∃ (cn : Str) (ns : List Str) (vs : List D) (ρ1 : En) (w1 : DW), cp cn ns = true ∧ At G Bd ρ1 w1 σ H1 ∧ Dt G (okA Bd (owns ρ1 σ)) H1 (.ins cn ns vs) x ∧ PostE G W (Dt G) Bd ρ1 σ H1 ((seqL fs ρ1 w1).bind fun ds ρ w => (F (.ins cn ns vs) ds w).at ρ) Q := by
    refine ⟨Bd, ρ, w, a, PostE.bind a q fun d ρ1 w1 v H1 m r q1 => ?_⟩
    by_cases hk : clsD cp d = true
    · simp only [hk, if_true] at q1
      cases d <;> first | (cases hk; done) | skip
      exact ⟨_, _, _, ρ1, w1, hk, m.at_, r, q1⟩
    · simp only [hk] at q1
      exact q1.elim
  refine PySem.W.methodCall_KW (pl := pl) (thn (ho.run pins s σ H _ I main) fun u s1 ⟨x, H1, I1, rx, cn, ns, vs, ρ1, w1, hcp, a1, dx, q1⟩ => ?_) ht
  obtain ⟨hnn, hm2⟩ := hm cn ns hcp
  have dx' := dx
  obtain ⟨ad, C, dd, us, e1, _, hC, hH, hns, dl⟩ := dx
  subst e1
  obtain rfl : u = Value.ref ad := rx
  obtain ⟨g, cl, me, cal⟩ := hm2 C hC
  have hlook : us.lookup name = none := by
    rw [← hns] at hnn
    clear dl hH dx' hns
    induction us with
    | nil => rfl
    | cons p r ih =>
      obtain ⟨n, y⟩ := p
      rw [List.map_cons, List.mem_cons, not_or] at hnn
      rw [List.lookup_cons, show (name == n) = false from beq_eq_false_iff_ne.mpr hnn.1]
      exact ih hnn.2
  refine getmeth_ok I1 hH (by rw [c.K]; exact cl) (by rw [c.K]; exact me) hlook ?_
  have body : tDL G W (seqL fs) σ H1 fun ys H2 => ∃ ρ2 w2 ds, At G Bd ρ2 w2 σ H2 ∧ DtL G (okA Bd (owns ρ2 σ)) H2 (.ins cn ns vs :: ds) (.ref ad :: ys) ∧ PostE G W (Dt G) Bd ρ2 σ H2 ((F (.ins cn ns vs) ds w2).at ρ2) Q :=
    ⟨Bd, ρ1, w1, a1, PostE.bindL a1 q1 fun ds ρ2 w2 ys H2 m r q2 => ⟨ρ2, w2, ds, m.at_, .cons (Dt.carry a1.bd m.stp (fun b hb => .inl (m.sub b hb)) dx') r, q2⟩⟩
  have hk : PySem.W.keepIn X.K (.ref g) = true := by rw [c.K]; exact me.kp
  cases es with
  | nil =>
    cases hs
    refine PySem.W.callWith_K0 (first := [.ref ad]) I1.kIn hk ?_
    obtain ⟨Bd', ρ', w', a', q'⟩ := body
    obtain ⟨ρ2, w2, ds, a2, dl2, q2⟩ := q' [] H1 Stp.refl a'.en (fun _ h => h) a'.dk rfl
    exact cal X W c pins s1 σ H1 [.ref ad] [.ref ad] Q _ _ _ (.ins cn ns vs :: ds) I1 (.cons rfl .nil) a2 dl2 q2
  | cons e es =>
    have hst := hs.stars
    simp only [List.all_cons, Bool.and_eq_true] at hst
    refine PySem.W.callWith_K (first := [.ref ad]) (h₀ := X.base) I1.ok.mod.kin hk (thn ((pa_of hs).run cpos pins s1 σ H1 _ I1 body) fun us2 s2 ⟨ys, H2, I2, r, ρ2, w2, ds, a2, dl2, q2⟩ => ⟨I2.kIn, ?_⟩) (starEach_of hst.1 _ _) (args_plain hst.2 _ _)
    exact cal X W c pins s2 σ H2 (.ref ad :: ys) (.ref ad :: us2) Q _ _ _ (.ins cn ns vs :: ds) I2 (.cons rfl r) a2 dl2 q2
end
end DL
set_option maxRecDepth 100000
set_option maxHeartbeats 4000000
set_option linter.all false
namespace DL
open PySem PySem.Spec PyProof.Rows L2 HT
/-! ### the leaves widened -/
def empE (x y : D) : Option Bool := match x, y with
  | .lst a, .lst [] => some a.isEmpty
  | .tup a, .tup [] => some a.isEmpty
  | _, _ => none
def strE (x y : D) : Option Bool := match x, y with
  | .str a, .str b => some (decide (a = b))
  | _, _ => none
def cmpX (o : CmpOp) (x y : D) : Option D := match o with
  | .Eq => (match strE x y with | some b => some (.bl b) | none => (match empE x y with | some b => some (.bl b) | none => cmpD .Eq x y))
  | .NotEq => (match strE x y with | some b => some (.bl (!b)) | none => (match empE x y with | some b => some (.bl (!b)) | none => cmpD .NotEq x y))
  | o => cmpD o x y
def b2D (p : Bool) : Int := if p = true then 1 else 0
def repD (ds : List D) (n : Int) : Option D := if ds ≠ [] ∧ 1 ≤ n ∧ n ≤ 1000 ∧ ds.length ≤ 1000 then some (.tup (List.replicate n.toNat ds).flatten) else none
def binX (o : Operator) (x y : D) : Option D := match o, x, y with
  | .Add, .bl p, .int j => some (.int (b2D p + j))
  | .Sub, .bl p, .int j => some (.int (b2D p - j))
  | .Sub, .int i, .bl p => some (.int (i - b2D p))
  | .Mult, .tup ds, .int n => repD ds n
  | o, x, y => binD o x y
def strX : D → Option D
  | .bl b => some (.str (if b then "True" else "False"))
  | d => strD d
def revD : D → Option D
  | .lst xs => some (.lst xs.reverse)
  | .tup xs => some (.tup xs.reverse)
  | _ => none
theorem revD_ok : ∀ d e, revD d = some e → (∃ xs, d = .lst xs ∧ e = .lst xs.reverse) ∨ ∃ xs, d = .tup xs ∧ e = .tup xs.reverse := by
  intro d e h
  cases d <;> first | (cases h; done) | skip
  · cases h
    exact .inl ⟨_, rfl, rfl⟩
  · cases h
    exact .inr ⟨_, rfl, rfl⟩
section
variable {G : GC} {P : Program} {wd : World} {base : Heap} {k : Nat} {X : Cx} {W : WX}
theorem emp_ok {ok : Addr → Prop} {H : Hp} {dx dy : D} {x y : V} {b : Bool} {Q : VK} {f : Bool → Bool} (hx : DtB G ok H dx x) (hy : DtB G ok H dy y) (e : empE dx dy = some b) (q : Q (.bl (f b)) H) : EmpR G.K f x y H Q := by
  unfold empE at e
  split at e
  · cases e
    obtain ⟨a, e1, xs, e2, e3⟩ := hx
    obtain ⟨c, f1, ys, f2, f3⟩ := hy
    rw [show ys = [] from f3] at f2
    exact ⟨a, c, xs, e1, f1, .inl ⟨sqL_of e2, sqL_of f2⟩, by rw [← emp_len e3.length]; exact q⟩
  · cases e
    obtain ⟨a, xs, e1, e2, e3⟩ := hx
    obtain ⟨c, ys, f1, f2, f3⟩ := hy
    rw [show ys = [] from f3] at f2
    exact ⟨a, c, xs, e1, f1, .inr ⟨sqT_of e2, sqT_of f2⟩, by rw [← emp_len e3.length]; exact q⟩
  · cases e
theorem op2_of {f : Value → Value → Sem Value} {F F' : D → D → Option D} (h : Op2 G X W f (fun a b w => RW.of (F a b) w)) (hn : ∀ a b, F' a b = F a b ∨ ∃ r : R2, OpR X f r ∧ ∀ (ok : Addr → Prop) (H : Hp) (d : D) (x y : V) (Q : VK), DtB G ok H a x → DtB G ok H b y → F' a b = some d → (∀ v H', Ext H H' → Dt G ok H' d v → Q v H') → (∀ a, H a = none → ok a) → r x y H Q) :
    Op2 G X W f (fun a b w => RW.of (F' a b) w) := by
  rintro pins s σ H x y u v Q I rx ry ⟨Bd, ρ, w, dx, dy, a, hx, hy, q⟩
  have q : PostE G W (Dt G) Bd ρ σ H ((RW.of (F' dx dy) w).at ρ) Q := q
  rcases hn dx dy with e | ⟨r, h1, h2⟩
  · rw [e] at q
    exact h pins s σ H x y u v Q I rx ry ⟨Bd, ρ, w, dx, dy, a, hx, hy, q⟩
  · cases e : F' dx dy with
    | none => simp only [RW.of, e, RW.at] at q; exact q.elim
    | some d =>
      simp only [RW.of, e, RW.at] at q
      exact h1 pins s σ H x y u v Q I rx ry (h2 _ H d x y Q hx hy e (fun v H' e r => PostE.next a q e r) fun b hb => fresh_ok a hb)
theorem cmp_okX (c : Cxy G P wd base k X W) (o : CmpOp) : Op2 G X W (compareOp o) (fun a b w => RW.of (cmpX o a b) w) := by
  have hu := c.room.un
  have hK : X.K = G.K := c.K
  refine op2_of (cmp_ok c o) fun a b => ?_
  have str_of : ∀ {t : Bool}, strE a b = some t → ∃ p q, a = .str p ∧ b = .str q ∧ t = decide (p = q) := fun {t} h => by
    unfold strE at h
    split at h
    · cases h
      exact ⟨_, _, rfl, rfl, rfl⟩
    · cases h
  have sdec : ∀ p q : Str, decide (V.str p = V.str q) = decide (p = q) := fun p q => by
    by_cases z : p = q
    · subst z; simp
    · rw [decide_eq_false z, decide_eq_false (fun h => z (V.str.inj h))]
  cases o <;> first | exact .inl rfl | skip
  · cases es : strE a b with
    | some t =>
      obtain ⟨p, q, rfl, rfl, rfl⟩ := str_of es
      right
      refine ⟨_, op_eq, fun ok H d x y Q hx hy e2 k fr => ?_⟩
      simp only [cmpX, es] at e2
      cases e2
      cases (show x = V.str p from hx.1)
      cases (show y = V.str q from hy.1)
      refine ⟨rfl, ?_⟩
      rw [sdec]
      exact k _ H Ext.refl rfl
    | none =>
    cases e : empE a b with
    | none => left; simp only [cmpX, es, e]
    | some t =>
      right
      refine ⟨_, op_eqE (by omega), fun ok H d x y Q hx hy e2 q fr => ?_⟩
      simp only [cmpX, es, e] at e2
      cases e2
      rw [hK]
      exact emp_ok (f := id) hx hy e (q _ H Ext.refl rfl)
  · cases es : strE a b with
    | some t =>
      obtain ⟨p, q, rfl, rfl, rfl⟩ := str_of es
      right
      refine ⟨_, op_ne, fun ok H d x y Q hx hy e2 k fr => ?_⟩
      simp only [cmpX, es] at e2
      cases e2
      cases (show x = V.str p from hx.1)
      cases (show y = V.str q from hy.1)
      refine ⟨rfl, ?_⟩
      rw [sdec]
      exact k _ H Ext.refl rfl
    | none =>
    cases e : empE a b with
    | none => left; simp only [cmpX, es, e]
    | some t =>
      right
      refine ⟨_, op_neE (by omega), fun ok H d x y Q hx hy e2 q fr => ?_⟩
      simp only [cmpX, es, e] at e2
      cases e2
      rw [hK]
      exact emp_ok (f := not) hx hy e (q _ H Ext.refl rfl)
theorem op_rep1 : OpR X (binaryOp .Mult) (fun x y H Q => ∃ l xs, x = .ref l ∧ y = .int 1 ∧ SqT X.K H l xs ∧ Q (.ref l) H) := by
  rintro pins s σ H x y v u Q I rx ry ⟨l, xs, rfl, rfl, hT, q⟩
  cases (show v = Value.ref l from rx)
  obtain ⟨t, rfl⟩ := (show ∃ t, u = Value.int 1 t from ry)
  obtain ⟨its, r, ⟨⟨cls, dd, data, sl⟩, ho, hc, n, hd⟩, hs⟩ := I.tuple hT
  simp only at hc hd
  subst hc hd
  exact wpAny_binaryOp_repeat_ref (T := "tuple") (U := "int") (by decide) ⟨_, ho, rfl⟩ (fun s' => typeIs_int s' 1 t) noFill_tuple_mul F.fills_int_mul F.slot_int_rmul repeat_tuple F.slot_int_index.lookup
    (call_meets F.slot_int_rmul (typeIs_int s 1 t) F.entry_int_rmul (F.args_int_rmul_2 _ _) (int_rmul_tuple 1 t l its.toArray n dd sl)
      ⟨ho, rfl, ⟨_, ho, rfl⟩, call_meets F.slot_tuple_mul ⟨_, ho, rfl⟩ F.entry_tuple_mul (F.args_tuple_mul_2 _ _) (tuple_mul1 l its.toArray n t) ⟨⟨dd, sl, ho⟩, ⟨.ref l, H, I, rfl, q⟩⟩⟩)
theorem rep_dt {ok : Addr → Prop} {H : Hp} {ds : List D} {vs : List V} (h : DtL G ok H ds vs) : ∀ n : Nat, DtL G ok H (List.replicate n ds).flatten (List.replicate n vs).flatten
  | 0 => rfl
  | n + 1 => by
    rw [List.replicate_succ, List.replicate_succ, List.flatten_cons, List.flatten_cons]
    exact h.append (rep_dt h n)
theorem bin_okX (c : Cxy G P wd base k X W) (o : Operator) : Op2 G X W (binaryOp o) (fun a b w => RW.of (binX o a b) w) := by
  have hK : X.K = G.K := c.K
  refine op2_of (bin_ok c o) fun a b => ?_
  cases o <;> first | exact .inl rfl | skip
  · cases a <;> first | exact .inl rfl | skip
    cases b <;> first | exact .inl rfl | skip
    right
    refine ⟨_, op_add_bi, fun ok H d x y Q hx hy e q fr => ?_⟩
    cases e
    exact ⟨_, _, hx, hy, q _ H Ext.refl rfl⟩
  · cases a <;> first | exact .inl rfl | skip
    · cases b <;> first | exact .inl rfl | skip
      right
      refine ⟨_, op_sub_bi, fun ok H d x y Q hx hy e q fr => ?_⟩
      cases e
      exact ⟨_, _, hx, hy, q _ H Ext.refl rfl⟩
    · cases b <;> first | exact .inl rfl | skip
      right
      refine ⟨_, op_sub_ib, fun ok H d x y Q hx hy e q fr => ?_⟩
      cases e
      exact ⟨_, _, hx, hy, q _ H Ext.refl rfl⟩
  · cases a <;> first | exact .inl rfl | skip
    rename_i ds
    cases b <;> first | exact .inl rfl | skip
    rename_i n
    right
    by_cases h1 : n = 1
    · subst h1
      refine ⟨_, op_rep1, fun ok H d x y Q hx hy e q fr => ?_⟩
      have e : repD ds 1 = some d := e
      unfold repD at e
      split at e
      · cases e
        obtain ⟨l, xs, e1, e2, e3⟩ := hx
        refine ⟨l, xs, e1, hy, by rw [hK]; exact sqT_of e2, q _ H Ext.refl ?_⟩
        have z : (List.replicate (1 : Int).toNat ds).flatten = ds := by simp
        rw [z]
        exact ⟨l, xs, rfl, e2, e3⟩
      · cases e
    · refine ⟨_, op_repT, fun ok H d x y Q hx hy e q fr => ?_⟩
      have e : repD ds n = some d := e
      unfold repD at e
      split at e
      · rename_i hc
        cases e
        obtain ⟨l, xs, e1, e2, e3⟩ := hx
        refine ⟨l, n, xs, e1, hy, by rw [hK]; exact sqT_of e2, fun z => ?_, by omega, hc.2.2.1, by rw [← e3.length]; exact hc.2.2.2, fun p hp => q _ _ (Ext.new hp) (dt_newT (rep_dt e3 n.toNat) hp)⟩
        subst z
        have := e3.length
        exact hc.1 (List.eq_nil_of_length_eq_zero this)
      · cases e
theorem str_okX (c : Cxy G P wd base k X W) : Op1 G X W (fun u => call (.type "str") [u]) (fun a w => RW.of (strX a) w) := by
  rintro pins s σ H x u Q I rx ⟨Bd, ρ, w, dx, a, hx, q⟩
  cases dx with
  | bl b =>
    cases (show x = V.bl b from hx)
    cases (show u = Value.bool b from rx)
    simp only [strX, RW.of, RW.at] at q
    refine PySem.P.str_of_bool ⟨.str _, H, I.tok _, ⟨_, rfl⟩, PostE.next a q Ext.refl ⟨rfl, ?_⟩⟩
    cases b <;> decide
  | _ => exact str_ok c pins s σ H x u Q I rx ⟨Bd, ρ, w, _, a, hx, q⟩
end
/-! ### the bundle -/
def b1X (f : Str) : Option (D → DW → RW) :=
  if f = "len" then some fun d w => RW.of (lenD d) w
  else if f = "repr" then some fun d w => RW.of (reprX d) w
  else if f = "max" then some fun d w => RW.of (maxI d) w
  else if f = "str" then some fun d w => RW.of (strX d) w
  else if f = "int" then some fun d w => RW.of (intD1 d) w
  else if f = "tuple" then some fun d w => RW.of (tupD d) w
  else if f = "all" then some fun d w => RW.of (allD d) w
  else if f = "any" then some fun d w => RW.of (anyD d) w
  else none
def bFX (f : Str) : Option (D → Option D) :=
  if f = "list" then some listD else if f = "sorted" then some sortedD else none
def kbInt (n : String) : Option Bool := if n = "int" then some true else if n = "bool" then some true else if n = "NoneType" ∨ n = "str" ∨ n = "list" ∨ n = "tuple" ∨ n = "dict" then some false else none
def kbOne (m : String) (n : String) : Option Bool := if n = m then some true else if n = "NoneType" ∨ n = "str" ∨ n = "list" ∨ n = "tuple" ∨ n = "dict" ∨ n = "int" ∨ n = "bool" then some false else none
def isiX (t : Str) : Option (D → Option Bool) :=
  if t = "int" then some (isiF kbInt fun _ => none)
  else if t = "bool" then some (isiF (kbOne "bool") fun _ => none)
  else if t = "str" then some (isiF (kbOne "str") fun _ => none)
  else if t = "tuple" then some (isiF (kbOne "tuple") fun _ => none)
  else if t = "list" then some (isiF (kbOne "list") fun _ => none)
  else none
def mX (f : Str) : Option (Nat × (D → List D → Option D)) :=
  if f = "split" then some (3, splitF) else if f = "removeprefix" then some (3, rmpreF) else if f = "isascii" then some (3, asciiF) else if f = "isdigit" then some (3, digitF)
  else if f = "find" then some (3, findF) else if f = "join" then some (3, joinF) else if f = "get" then some (6, getF) else none
def muX (f : Str) : Option (Nat × (D → List D → Option (D × D))) :=
  if f = "append" then some (4, appendF) else if f = "extend" then some (4, extendF) else if f = "pop" then some (4, popF) else none
def dcpF (acc x y : D) : Option D := match acc with
  | .dT ks vs => setD (.dT ks vs) x y
  | _ => none
theorem dcp_ok {G : GC} : DcpOk G dcpF := by
  rintro acc x y acc' ok H kvs xv yv e ⟨zs, rfl, dl⟩ hx hy
  have e : setD (.dT (kvs.map (·.1)) zs) x y = some acc' := e
  simp only [setD] at e
  split at e
  · rename_i ys
    split at e
    · rename_i kk hk
      split at e
      · rename_i hl
        cases e
        obtain ⟨hl, hn⟩ := hl
        rw [lim_eq, List.length_map] at hl
        obtain ⟨b, us, f1, f2, f3⟩ := hx
        rcases f2 with f2 | f2
        · rw [keysD_of hk f3] at f2
          refine ⟨kk, b, f1, f2, hl, _, ?_, put_vals dl hy⟩
          rw [put_keys]
        · rw [hn] at f2
          cases f2.2
      · cases e
    · cases e
  · cases e
def stdG (fn : Str → Option Fn) (ki : Str → List D → List Str → List D → Option (List D)) : Gm where
  con := fun _ => none
  fn := fn
  cm := fun _ _ => none
  b1 := b1X
  bF := bFX
  bn := fun _ => none
  m := mX
  im := fun _ => none
  mu := muX
  sset := some ssetF
  set := setD
  dcp := dcpF
  own2 := fun _ _ _ _ => .stuck
  bin := fun o a b w => RW.of (binX o a b) w
  cmp := fun o a b w => RW.of (cmpX o a b) w
  tru := truD
  get := fun a b w => RW.of (getD a b) w
  slc := slcD
  rev := revD
  neg := negD
  prop := fun _ => none
  isi := isiX
  it := itD
  fo := fun _ _ => false
  fmt := fmtD
  ki := ki
/-- the names that no text of a law binds -/
def freeB : List Str := ["len", "repr", "max", "str", "int", "tuple", "all", "any", "list", "sorted", "set", "isinstance", "bool", "range", "zip"]
structure StdOk (G : GC) : Prop where
  free : ∀ x ∈ freeB, G.mg x = none
  sm : SmOk G.K
structure FnsOk (G : GC) (P : Program) (wd : World) (base : Heap) (k : Nat) (fn : Str → Option Fn) (ki : Str → List D → List Str → List D → Option (List D)) : Prop where
  fns : ∀ f F, fn f = some F → ∃ a, G.mg f = some (.ref a) ∧ PySem.W.keepIn G.K (.ref a) = true ∧ CalD G P wd base k (.ref a) F ∧ CalB G P wd base k (.ref a) F
  fnK : ∀ f F ks us ds, fn f = some F → ki f [] ks us = some ds → ∃ a, G.mg f = some (.ref a) ∧ PySem.W.keepIn G.K (.ref a) = true ∧ CalK G P wd base k (.ref a) ks (kiF (stdG fn ki) f F ks)
section
variable {G : GC} {P : Program} {wd : World} {base : Heap} {k : Nat}
theorem b1X_ok (S : StdOk G) (f : Str) (F : D → DW → RW) (h : b1X f = some F) : ∃ val, G.mg f = none ∧ bootBuiltins f = some val ∧ IsB val ∧ ∀ X W, Cxy G P wd base k X W → Op1 G X W (fun u => call val [u]) F := by
  unfold b1X at h
  split at h
  · rename_i e; subst e; cases h
    exact ⟨.builtin "len", S.free _ (by decide), by decide +kernel, .inl ⟨_, rfl⟩, fun X W c => len_ok c⟩
  split at h
  · rename_i e; subst e; cases h
    exact ⟨.builtin "repr", S.free _ (by decide), by decide +kernel, .inl ⟨_, rfl⟩, fun X W c => repr_okX c S.sm⟩
  split at h
  · rename_i e; subst e; cases h
    exact ⟨.builtin "max", S.free _ (by decide), by decide +kernel, .inl ⟨_, rfl⟩, fun X W c => max_okX c S.sm⟩
  split at h
  · rename_i e; subst e; cases h
    exact ⟨.type "str", S.free _ (by decide), by decide +kernel, .inr ⟨_, rfl⟩, fun X W c => str_okX c⟩
  split at h
  · rename_i e; subst e; cases h
    exact ⟨.type "int", S.free _ (by decide), by decide +kernel, .inr ⟨_, rfl⟩, fun X W c => int_ok c⟩
  split at h
  · rename_i e; subst e; cases h
    exact ⟨.type "tuple", S.free _ (by decide), by decide +kernel, .inr ⟨_, rfl⟩, fun X W c => tup_ok c⟩
  split at h
  · rename_i e; subst e; cases h
    exact ⟨.builtin "all", S.free _ (by decide), by decide +kernel, .inl ⟨_, rfl⟩, fun X W c => all_ok c⟩
  split at h
  · rename_i e; subst e; cases h
    exact ⟨.builtin "any", S.free _ (by decide), by decide +kernel, .inl ⟨_, rfl⟩, fun X W c => any_ok c⟩
  cases h
theorem bFX_ok (S : StdOk G) (f : Str) (F : D → Option D) (h : bFX f = some F) : ∃ val, G.mg f = none ∧ bootBuiltins f = some val ∧ IsB val ∧ ∀ X W, Cxy G P wd base k X W → CallR X val fun xs H Q => ∃ x, xs = [x] ∧ PureF G F x H Q := by
  unfold bFX at h
  split at h
  · rename_i e; subst e; cases h
    exact ⟨.type "list", S.free _ (by decide), by decide +kernel, .inr ⟨_, rfl⟩, fun X W c => list_ok c⟩
  split at h
  · rename_i e; subst e; cases h
    exact ⟨.builtin "sorted", S.free _ (by decide), by decide +kernel, .inl ⟨_, rfl⟩, fun X W c => sorted_ok c⟩
  cases h
theorem kit_ty {K : PySem.W.Frag} {n m : String} {b : Bool} (h : PySem.W.kitOne ([] : PySem.W.Frag) (.type n) (.type m) = some b) : PySem.W.kitOne K (.type n) (.type m) = some b := h
theorem isiX_ok (S : StdOk G) (t : Str) (F : D → Option Bool) (h : isiX t = some F) : ∃ u c, ClsV c u ∧ ((G.mg t = none ∧ bootBuiltins t = some u) ∨ G.mg t = some u) ∧ G.mg "isinstance" = none ∧ ∀ d b, F d = some b → ∀ ok H x, DtB G ok H d x → ∃ ty, TyX G.K H x ty ∧ PySem.W.kitOne G.K ty u = some b := by
  have one : ∀ {m : String} (t : Str) (kb : String → Option Bool), bootBuiltins t = some (.type m) → G.mg t = none → (∀ n b, kb n = some b → PySem.W.kitOne ([] : PySem.W.Frag) (.type n) (.type m) = some b) → ∃ u c, ClsV c u ∧ ((G.mg t = none ∧ bootBuiltins t = some u) ∨ G.mg t = some u) ∧ G.mg "isinstance" = none ∧ ∀ d b, isiF kb (fun _ => none) d = some b → ∀ ok H x, DtB G ok H d x → ∃ ty, TyX G.K H x ty ∧ PySem.W.kitOne G.K ty u = some b :=
    fun {m} t kb hb hm hk => ⟨.type m, .ty m, .ty m, .inl ⟨hm, hb⟩, S.free _ (by decide), isi_ok (J := fun _ => none) (fun n b e => kit_ty (hk n b e)) (fun c b e => by cases e)⟩
  unfold isiX at h
  split at h
  · rename_i e; subst e; cases h
    refine one (m := "int") _ _ (by decide +kernel) (S.free _ (by decide)) fun n b e => ?_
    unfold kbInt at e
    split at e
    · rename_i z; subst z; cases e; decide +kernel
    split at e
    · rename_i z; subst z; cases e; decide +kernel
    split at e
    · rename_i z
      cases e
      rcases z with z | z | z | z | z <;> subst z <;> decide +kernel
    cases e
  split at h
  · rename_i e; subst e; cases h
    refine one (m := "bool") _ _ (by decide +kernel) (S.free _ (by decide)) fun n b e => ?_
    unfold kbOne at e
    split at e
    · rename_i z; subst z; cases e; decide +kernel
    rename_i hne
    split at e
    · rename_i z
      cases e
      rcases z with z | z | z | z | z | z | z <;> subst z <;> first | decide +kernel | exact absurd rfl hne
    cases e
  split at h
  · rename_i e; subst e; cases h
    refine one (m := "str") _ _ (by decide +kernel) (S.free _ (by decide)) fun n b e => ?_
    unfold kbOne at e
    split at e
    · rename_i z; subst z; cases e; decide +kernel
    rename_i hne
    split at e
    · rename_i z
      cases e
      rcases z with z | z | z | z | z | z | z <;> subst z <;> first | decide +kernel | exact absurd rfl hne
    cases e
  split at h
  · rename_i e; subst e; cases h
    refine one (m := "tuple") _ _ (by decide +kernel) (S.free _ (by decide)) fun n b e => ?_
    unfold kbOne at e
    split at e
    · rename_i z; subst z; cases e; decide +kernel
    rename_i hne
    split at e
    · rename_i z
      cases e
      rcases z with z | z | z | z | z | z | z <;> subst z <;> first | decide +kernel | exact absurd rfl hne
    cases e
  split at h
  · rename_i e; subst e; cases h
    refine one (m := "list") _ _ (by decide +kernel) (S.free _ (by decide)) fun n b e => ?_
    unfold kbOne at e
    split at e
    · rename_i z; subst z; cases e; decide +kernel
    rename_i hne
    split at e
    · rename_i z
      cases e
      rcases z with z | z | z | z | z | z | z <;> subst z <;> first | decide +kernel | exact absurd rfl hne
    cases e
  cases h
theorem mX_ok (S : StdOk G) (f : Str) (kd : Nat) (F : D → List D → Option D) (h : mX f = some (kd, F)) (X : Cx) (W : WX) (c : Cxy G P wd base k X W) : MthOk G X W f kd F := by
  unfold mX at h
  split at h
  · rename_i e; subst e; cases h; exact split_ok
  split at h
  · rename_i e; subst e; cases h; exact rmpre_ok
  split at h
  · rename_i e; subst e; cases h; exact ascii_ok
  split at h
  · rename_i e; subst e; cases h; exact digit_ok
  split at h
  · rename_i e; subst e; cases h; exact find_ok
  split at h
  · rename_i e; subst e; cases h; exact join_ok c.K
  split at h
  · rename_i e; subst e; cases h; exact dget_ok c
  cases h
theorem muX_ok (f : Str) (kd : Nat) (F : D → List D → Option (D × D)) (h : muX f = some (kd, F)) (X : Cx) (W : WX) (c : Cxy G P wd base k X W) : MutOk G X W f kd F := by
  unfold muX at h
  split at h
  · rename_i e; subst e; cases h; exact append_ok
  split at h
  · rename_i e; subst e; cases h; exact extend_ok
  split at h
  · rename_i e; subst e; cases h; exact pop_ok
  cases h
theorem std_ok (S : StdOk G) {fn : Str → Option Fn} {ki : Str → List D → List Str → List D → Option (List D)} (F : FnsOk G P wd base k fn ki) : GmOk G P wd base k (stdG fn ki) where
  con := fun _ _ h => by cases h
  fn := F.fns
  bin := fun X W c o => bin_okX c o
  cmp := fun X W c o => cmp_okX c o
  get := fun X W c a b hb => get_ok c a b hb
  tru := fun X W c => tru_ok' c
  it := it_ok
  fo := fun _ _ h => by cases h
  b1 := b1X_ok S
  bF := bFX_ok S
  bn := fun _ _ h => by cases h
  neg := fun X W c => neg_ok c
  isi := isiX_ok S
  slc := fun X W c => slc_ok c
  m := fun f kd F h X W c => mX_ok S f kd F h X W c
  im := fun _ _ _ h => by cases h
  mu := fun f kd F h X W c => muX_ok f kd F h X W c
  sset := fun F h => by
    cases h
    exact ⟨S.free _ (by decide), S.free _ (by decide), fun X W c v x pins s σ H Q I rx q => sset_run c v x pins s σ H Q I rx q⟩
  set := fun X W c => set_ok c
  dcp := dcp_ok
  own2 := fun X W c g pins s σ H x y u v Q Bd ρ w dx dy I rx ry a d1 d2 q => q.elim
  fmt := fmt_ok
  range := S.free _ (by decide)
  zip := S.free _ (by decide)
  cat := fun x ds w => by
    cases x <;> first | exact .inl rfl | skip
    rename_i xs
    by_cases hz : xs.length + ds.length ≤ lim
    · refine .inr ⟨xs, rfl, ?_, by rw [← lim_eq]; exact hz⟩
      show RW.of (if xs.length + ds.length ≤ lim then some (D.lst (xs ++ ds)) else none) w = _
      rw [if_pos hz]
      rfl
    · left
      show RW.of (if xs.length + ds.length ≤ lim then some (D.lst (xs ++ ds)) else none) w = _
      rw [if_neg hz]
      rfl
  rev := revD_ok
  fnK := F.fnK
end
end DL
set_option maxRecDepth 100000
set_option maxHeartbeats 4000000
set_option linter.all false
namespace DL.K17
open PySem PySem.Spec PyProof.Rows L2 DL
def top (i : Nat) : Stmt := PySem.Challenge.pw_sheetmoves_k17_values_that_are_colouring.main.body.getD i (.Pass ⟨0, 0, 0, 0⟩)
/-! ### is_int -/
abbrev s_is_int : Stmt := top 1
def N_is_int : List Str := ["thing"]
def P_is_int : List Str := ["thing"]
theorem sc_is_int : FnScope N_is_int P_is_int (defScope s_is_int) := ⟨by rfl, by rfl, by rfl, by decide +kernel, by rfl, by decide +kernel, by decide +kernel⟩
def b_is_int : PYs := (.cons (.ret (.and (.isi (.var "thing" 0) "int") (.and (.cmp .IsNot (.var "thing" 0) (.con (.bl true))) (.cmp .IsNot (.var "thing" 0) (.con (.bl false)))))) .nil)
/-! ### is_row -/
abbrev s_is_row : Stmt := top 3
def N_is_row : List Str := ["thing", "m", "a", "number"]
def P_is_row : List Str := ["thing", "m", "a"]
theorem sc_is_row : FnScope N_is_row P_is_row (defScope s_is_row) := ⟨by rfl, by rfl, by rfl, by decide +kernel, by rfl, by decide +kernel, by decide +kernel⟩
def b_is_row : PYs := (.cons (.ret (.and (.isi (.var "thing" 0) "tuple") (.and (.cmp .Eq (.b1 "len" (.var "thing" 0)) (.var "a" 2)) (.b1 "all" (.lc (.and (.call "is_int" (.cons (.var "number" 3) .nil)) (.chain .LtE .Lt (.con (.int 0)) (.var "number" 3) (.var "m" 1))) (.nm "number" 3) (.val (.var "thing" 0)) .nil [("number", 3)]))))) .nil)
/-! ### is_table -/
abbrev s_is_table : Stmt := top 4
def N_is_table : List Str := ["thing", "m", "a", "b", "row"]
def P_is_table : List Str := ["thing", "m", "a", "b"]
theorem sc_is_table : FnScope N_is_table P_is_table (defScope s_is_table) := ⟨by rfl, by rfl, by rfl, by decide +kernel, by rfl, by decide +kernel, by decide +kernel⟩
def b_is_table : PYs := (.cons (.ret (.and (.isi (.var "thing" 0) "tuple") (.and (.cmp .Eq (.b1 "len" (.var "thing" 0)) (.var "b" 3)) (.b1 "all" (.lc (.call "is_row" (.cons (.var "row" 4) (.cons (.var "m" 1) (.cons (.var "a" 2) .nil)))) (.nm "row" 4) (.val (.var "thing" 0)) .nil [("row", 4)]))))) .nil)
/-! ### is_colouring -/
abbrev s_is_colouring : Stmt := top 5
def N_is_colouring : List Str := ["kinds", "thing", "m", "a", "b", "tables", "table"]
def P_is_colouring : List Str := ["kinds", "thing"]
theorem sc_is_colouring : FnScope N_is_colouring P_is_colouring (defScope s_is_colouring) := ⟨by rfl, by rfl, by rfl, by decide +kernel, by rfl, by decide +kernel, by decide +kernel⟩
def b_is_colouring : PYs := (.cons (.ifs (.or (.nt (.isi (.var "thing" 1) "tuple")) (.cmp .NotEq (.b1 "len" (.var "thing" 1)) (.con (.int 4)))) (.cons (.ret (.con (.bl false))) .nil) .nil) (.cons (.asgT [("m", 2), ("a", 3), ("b", 4), ("tables", 5)] false (.var "thing" 1)) (.cons (.ifs (.or (.nt (.call "is_int" (.cons (.var "m" 2) .nil))) (.or (.nt (.call "is_int" (.cons (.var "a" 3) .nil))) (.or (.nt (.call "is_int" (.cons (.var "b" 4) .nil))) (.or (.cmp .Lt (.var "m" 2) (.con (.int 2))) (.or (.cmp .Lt (.var "a" 3) (.con (.int 1))) (.cmp .Lt (.var "b" 4) (.con (.int 1)))))))) (.cons (.ret (.con (.bl false))) .nil) .nil) (.cons (.ret (.and (.isi (.var "tables" 5) "tuple") (.and (.cmp .Eq (.b1 "len" (.var "tables" 5)) (.b1 "len" (.var "kinds" 0))) (.b1 "all" (.lc (.call "is_table" (.cons (.var "table" 6) (.cons (.var "m" 2) (.cons (.var "a" 3) (.cons (.var "b" 4) .nil))))) (.nm "table" 6) (.val (.var "tables" 5)) .nil [("table", 6)]))))) .nil))))
/-! ### l_deck -/
abbrev s_l_deck : Stmt := top 7
def N_l_deck : List Str := ["_law_script", "_law_cells", "_law_mixed", "_law_cell"]
def P_l_deck : List Str := ["_law_script"]
theorem sc_l_deck : FnScope N_l_deck P_l_deck (defScope s_l_deck) := ⟨by rfl, by rfl, by rfl, by decide +kernel, by rfl, by decide +kernel, by decide +kernel⟩
/-! ### l_draw -/
abbrev s_l_draw : Stmt := top 8
def N_l_draw : List Str := ["_law_deck_here", "_law_many", "_law_turn", "_law_cell", "_law_figure"]
def P_l_draw : List Str := ["_law_deck_here", "_law_many"]
theorem sc_l_draw : FnScope N_l_draw P_l_draw (defScope s_l_draw) := ⟨by rfl, by rfl, by rfl, by decide +kernel, by rfl, by decide +kernel, by decide +kernel⟩
/-! ### l_pick -/
abbrev s_l_pick : Stmt := top 9
def N_l_pick : List Str := ["_law_deck_here", "_law_some"]
def P_l_pick : List Str := ["_law_deck_here", "_law_some"]
theorem sc_l_pick : FnScope N_l_pick P_l_pick (defScope s_l_pick) := ⟨by rfl, by rfl, by rfl, by decide +kernel, by rfl, by decide +kernel, by decide +kernel⟩
def b_l_pick : PYs := (.cons (.ret (.sub (.var "_law_some" 1) (.call "_law_draw" (.cons (.var "_law_deck_here" 0) (.cons (.b1 "len" (.var "_law_some" 1)) .nil))))) .nil)
/-! ### l_tables -/
abbrev s_l_tables : Stmt := top 10
def N_l_tables : List Str := ["_law_deck_here", "_law_signs", "_law_base", "_law_wide", "_law_tall", "_law_found", "_law_sign", "_law_i", "_law_j"]
def P_l_tables : List Str := ["_law_deck_here", "_law_signs", "_law_base", "_law_wide", "_law_tall"]
theorem sc_l_tables : FnScope N_l_tables P_l_tables (defScope s_l_tables) := ⟨by rfl, by rfl, by rfl, by decide +kernel, by rfl, by decide +kernel, by decide +kernel⟩
def b_l_tables : PYs := (.cons (.asgO "_law_found" 5 (.lst .nil)) (.cons (.for_ (.nm "_law_sign" 6) (.val (.var "_law_signs" 1)) (.cons (.ex (.mut "_law_found" 5 "append" (.cons (.b1 "tuple" (.lc (.b1 "tuple" (.lc (.call "_law_draw" (.cons (.var "_law_deck_here" 0) (.cons (.var "_law_base" 2) .nil))) (.nm "_law_i" 7) (.range1 (.var "_law_wide" 3)) .nil [("_law_i", 7)])) (.nm "_law_j" 8) (.range1 (.var "_law_tall" 4)) .nil [("_law_j", 8)])) .nil))) .nil)) (.cons (.ret (.b1 "tuple" (.var "_law_found" 5))) .nil)))
/-! ### l_shade -/
abbrev s_l_shade : Stmt := top 11
def N_l_shade : List Str := ["_law_deck_here", "_law_signs", "_law_base", "_law_wide", "_law_tall"]
def P_l_shade : List Str := ["_law_deck_here", "_law_signs"]
theorem sc_l_shade : FnScope N_l_shade P_l_shade (defScope s_l_shade) := ⟨by rfl, by rfl, by rfl, by decide +kernel, by rfl, by decide +kernel, by decide +kernel⟩
def b_l_shade : PYs := (.cons (.asg "_law_base" 2 (.call "_law_pick" (.cons (.var "_law_deck_here" 0) (.cons (.lst (.cons (.con (.int 2)) (.cons (.con (.int 3)) (.cons (.con (.int 4)) (.cons (.con (.int 7)) (.cons (.con (.int 12)) (.cons (.bin .Pow (.con (.int 10)) (.con (.int 6))) (.cons (.bin .Pow (.con (.int 10)) (.con (.int 40))) .nil)))))))) .nil)))) (.cons (.par2 "_law_wide" 3 "_law_tall" 4 (.bin .Add (.con (.int 1)) (.call "_law_draw" (.cons (.var "_law_deck_here" 0) (.cons (.con (.int 5)) .nil)))) (.bin .Add (.con (.int 1)) (.call "_law_draw" (.cons (.var "_law_deck_here" 0) (.cons (.con (.int 5)) .nil))))) (.cons (.ret (.tup (.cons (.var "_law_base" 2) (.cons (.var "_law_wide" 3) (.cons (.var "_law_tall" 4) (.cons (.call "_law_tables" (.cons (.var "_law_deck_here" 0) (.cons (.var "_law_signs" 1) (.cons (.var "_law_base" 2) (.cons (.var "_law_wide" 3) (.cons (.var "_law_tall" 4) .nil)))))) .nil)))))) .nil)))
/-! ### l_is_whole -/
abbrev s_l_is_whole : Stmt := top 12
def N_l_is_whole : List Str := ["_law_it"]
def P_l_is_whole : List Str := ["_law_it"]
theorem sc_l_is_whole : FnScope N_l_is_whole P_l_is_whole (defScope s_l_is_whole) := ⟨by rfl, by rfl, by rfl, by decide +kernel, by rfl, by decide +kernel, by decide +kernel⟩
def b_l_is_whole : PYs := (.cons (.ret (.and (.isi (.var "_law_it" 0) "int") (.nt (.isi (.var "_law_it" 0) "bool")))) .nil)
/-! ### l_is_line -/
abbrev s_l_is_line : Stmt := top 13
def N_l_is_line : List Str := ["_law_it", "_law_base", "_law_wide", "_law_one_now"]
def P_l_is_line : List Str := ["_law_it", "_law_base", "_law_wide"]
theorem sc_l_is_line : FnScope N_l_is_line P_l_is_line (defScope s_l_is_line) := ⟨by rfl, by rfl, by rfl, by decide +kernel, by rfl, by decide +kernel, by decide +kernel⟩
def b_l_is_line : PYs := (.cons (.ifs (.or (.nt (.isi (.var "_law_it" 0) "tuple")) (.cmp .NotEq (.b1 "len" (.var "_law_it" 0)) (.var "_law_wide" 2))) (.cons (.ret (.con (.bl false))) .nil) .nil) (.cons (.ret (.cmp .Eq (.lc (.var "_law_one_now" 3) (.nm "_law_one_now" 3) (.val (.var "_law_it" 0)) (.cons (.or (.nt (.call "_law_is_whole" (.cons (.var "_law_one_now" 3) .nil))) (.or (.cmp .Lt (.var "_law_one_now" 3) (.con (.int 0))) (.cmp .GtE (.var "_law_one_now" 3) (.var "_law_base" 1)))) .nil) [("_law_one_now", 3)]) (.lst .nil))) .nil))
/-! ### l_is_shade -/
abbrev s_l_is_shade : Stmt := top 14
def N_l_is_shade : List Str := ["_law_signs", "_law_it", "_law_base", "_law_wide", "_law_tall", "_law_tables_here", "_law_part_now", "_law_least", "_law_table", "_law_line"]
def P_l_is_shade : List Str := ["_law_signs", "_law_it"]
theorem sc_l_is_shade : FnScope N_l_is_shade P_l_is_shade (defScope s_l_is_shade) := ⟨by rfl, by rfl, by rfl, by decide +kernel, by rfl, by decide +kernel, by decide +kernel⟩
def b_l_is_shade : PYs := (.cons (.ifs (.or (.nt (.isi (.var "_law_it" 1) "tuple")) (.cmp .NotEq (.b1 "len" (.var "_law_it" 1)) (.con (.int 4)))) (.cons (.ret (.con (.bl false))) .nil) .nil) (.cons (.asgT [("_law_base", 2), ("_law_wide", 3), ("_law_tall", 4), ("_law_tables_here", 5)] false (.var "_law_it" 1)) (.cons (.for_ (.tup [("_law_part_now", 6), ("_law_least", 7)]) (.val (.tup (.cons (.tup (.cons (.var "_law_base" 2) (.cons (.con (.int 2)) .nil))) (.cons (.tup (.cons (.var "_law_wide" 3) (.cons (.con (.int 1)) .nil))) (.cons (.tup (.cons (.var "_law_tall" 4) (.cons (.con (.int 1)) .nil))) .nil))))) (.cons (.ifs (.or (.nt (.call "_law_is_whole" (.cons (.var "_law_part_now" 6) .nil))) (.cmp .Lt (.var "_law_part_now" 6) (.var "_law_least" 7))) (.cons (.ret (.con (.bl false))) .nil) .nil) .nil)) (.cons (.ifs (.or (.nt (.isi (.var "_law_tables_here" 5) "tuple")) (.cmp .NotEq (.b1 "len" (.var "_law_tables_here" 5)) (.b1 "len" (.var "_law_signs" 0)))) (.cons (.ret (.con (.bl false))) .nil) .nil) (.cons (.for_ (.nm "_law_table" 8) (.val (.var "_law_tables_here" 5)) (.cons (.ifs (.or (.nt (.isi (.var "_law_table" 8) "tuple")) (.cmp .NotEq (.b1 "len" (.var "_law_table" 8)) (.var "_law_tall" 4))) (.cons (.ret (.con (.bl false))) .nil) .nil) (.cons (.ifs (.cmp .NotEq (.lc (.var "_law_line" 9) (.nm "_law_line" 9) (.val (.var "_law_table" 8)) (.cons (.nt (.call "_law_is_line" (.cons (.var "_law_line" 9) (.cons (.var "_law_base" 2) (.cons (.var "_law_wide" 3) .nil))))) .nil) [("_law_line", 9)]) (.lst .nil)) (.cons (.ret (.con (.bl false))) .nil) .nil) .nil))) (.cons (.ret (.con (.bl true))) .nil))))))
/-! ### l_bent -/
abbrev s_l_bent : Stmt := top 15
def N_l_bent : List Str := ["_law_deck_here", "_law_it", "_law_deep", "_law_at", "_law_way"]
def P_l_bent : List Str := ["_law_deck_here", "_law_it", "_law_deep"]
theorem sc_l_bent : FnScope N_l_bent P_l_bent (defScope s_l_bent) := ⟨by rfl, by rfl, by rfl, by decide +kernel, by rfl, by decide +kernel, by decide +kernel⟩
def b_l_bent : PYs := (.cons (.ifs (.and (.isi (.var "_law_it" 1) "tuple") (.and (.cmp .NotEq (.var "_law_it" 1) (.tup .nil)) (.and (.cmp .Gt (.var "_law_deep" 2) (.con (.int 0))) (.cmp .Gt (.call "_law_draw" (.cons (.var "_law_deck_here" 0) (.cons (.con (.int 7)) .nil))) (.con (.int 0)))))) (.cons (.par2 "_law_at" 3 "_law_way" 4 (.call "_law_draw" (.cons (.var "_law_deck_here" 0) (.cons (.b1 "len" (.var "_law_it" 1)) .nil))) (.call "_law_draw" (.cons (.var "_law_deck_here" 0) (.cons (.con (.int 11)) .nil)))) (.cons (.ifs (.cmp .Eq (.var "_law_way" 4) (.con (.int 0))) (.cons (.ret (.bin .Add (.slc (.var "_law_it" 1) .nil (.cons (.var "_law_at" 3) .nil)) (.slc (.var "_law_it" 1) (.cons (.bin .Add (.var "_law_at" 3) (.con (.int 1))) .nil) .nil))) .nil) .nil) (.cons (.ifs (.cmp .Eq (.var "_law_way" 4) (.con (.int 1))) (.cons (.ret (.bin .Add (.slc (.var "_law_it" 1) .nil (.cons (.bin .Add (.var "_law_at" 3) (.con (.int 1))) .nil)) (.slc (.var "_law_it" 1) (.cons (.var "_law_at" 3) .nil) .nil))) .nil) .nil) (.cons (.ifs (.cmp .Eq (.var "_law_way" 4) (.con (.int 2))) (.cons (.ret (.call "_law_pick" (.cons (.var "_law_deck_here" 0) (.cons (.lst (.cons (.b1 "list" (.var "_law_it" 1)) (.cons (.rev (.var "_law_it" 1)) (.cons (.bin .Add (.var "_law_it" 1) (.var "_law_it" 1)) (.cons (.slc (.var "_law_it" 1) .nil (.cons (.var "_law_at" 3) .nil)) (.cons (.tup (.cons (.var "_law_it" 1) .nil)) .nil)))))) .nil)))) .nil) .nil) (.cons (.ret (.bin .Add (.bin .Add (.slc (.var "_law_it" 1) .nil (.cons (.var "_law_at" 3) .nil)) (.tup (.cons (.call "_law_bent" (.cons (.var "_law_deck_here" 0) (.cons (.sub (.var "_law_it" 1) (.var "_law_at" 3)) (.cons (.bin .Sub (.var "_law_deep" 2) (.con (.int 1))) .nil)))) .nil))) (.slc (.var "_law_it" 1) (.cons (.bin .Add (.var "_law_at" 3) (.con (.int 1))) .nil) .nil))) .nil))))) .nil) (.cons (.ifs (.isi (.var "_law_it" 1) "int") (.cons (.ret (.call "_law_pick" (.cons (.var "_law_deck_here" 0) (.cons (.lst (.cons (.bin .Add (.var "_law_it" 1) (.con (.int 1))) (.cons (.bin .Sub (.var "_law_it" 1) (.con (.int 1))) (.cons (.bin .Sub (.con (.int 0)) (.var "_law_it" 1)) (.cons (.con (.int 0)) (.cons (.con (.int 1)) (.cons (.con (.int 2)) (.cons (.con (.bl true)) (.cons (.b1 "str" (.var "_law_it" 1)) (.cons (.con .non) (.cons (.tup (.cons (.var "_law_it" 1) .nil)) (.cons (.bin .Pow (.con (.int 10)) (.con (.int 40))) .nil)))))))))))) .nil)))) .nil) .nil) (.cons (.ret (.call "_law_pick" (.cons (.var "_law_deck_here" 0) (.cons (.lst (.cons (.con .non) (.cons (.tup .nil) (.cons (.lst .nil) (.cons (.dnew false) (.cons (.con (.str "x")) (.cons (.con (.int 0)) (.cons (.con (.bl true)) (.cons (.tup (.cons (.tup .nil) .nil)) (.cons (.tup (.cons (.tup (.cons (.con (.int 0)) .nil)) .nil)) .nil)))))))))) .nil)))) .nil)))
/-! ### l_told_right -/
abbrev s_l_told_right : Stmt := top 16
def N_l_told_right : List Str := ["_law_signs", "_law_it", "_law_was", "_law_due", "_law_told"]
def P_l_told_right : List Str := ["_law_signs", "_law_it"]
theorem sc_l_told_right : FnScope N_l_told_right P_l_told_right (defScope s_l_told_right) := ⟨by rfl, by rfl, by rfl, by decide +kernel, by rfl, by decide +kernel, by decide +kernel⟩
def b_l_told_right : PYs := (.cons (.par2 "_law_was" 2 "_law_due" 3 (.b1 "repr" (.var "_law_it" 1)) (.call "_law_is_shade" (.cons (.var "_law_signs" 0) (.cons (.var "_law_it" 1) .nil)))) (.cons (.asg "_law_told" 4 (.lst (.cons (.call "is_colouring" (.cons (.var "_law_signs" 0) (.cons (.var "_law_it" 1) .nil))) (.cons (.callK "is_colouring" .nil ["thing", "kinds"] (.cons (.var "_law_it" 1) (.cons (.var "_law_signs" 0) .nil))) .nil)))) (.cons (.ret (.and (.cmp .Eq (.b1 "repr" (.var "_law_told" 4)) (.b1 "repr" (.lst (.cons (.var "_law_due" 3) (.cons (.var "_law_due" 3) .nil))))) (.cmp .Eq (.b1 "repr" (.var "_law_it" 1)) (.var "_law_was" 2)))) .nil)))
/-! ### law -/
abbrev s_law : Stmt := top 17
def N_law : List Str := ["_law_script", "_law_deck_here", "_law_go", "_law_signs", "_law_shade_here", "_law_some", "_law_k", "_law_bent_here", "_law_base", "_law_wide", "_law_tall", "_law_tables_here", "_law_line", "_law_it", "_law_more", "_law_odd"]
def P_law : List Str := ["_law_script"]
theorem sc_law : FnScope N_law P_law (defScope s_law) := ⟨by rfl, by rfl, by rfl, by decide +kernel, by rfl, by decide +kernel, by decide +kernel⟩
def b_law : PYs := (.cons (.asg "_law_deck_here" 1 (.call "_law_deck" (.cons (.var "_law_script" 0) .nil))) (.cons (.for_ (.nm "_law_go" 2) (.range1 (.con (.int 4))) (.cons (.asg "_law_signs" 3 (.call "_law_pick" (.cons (.var "_law_deck_here" 1) (.cons (.lst (.cons (.con (.str "a")) (.cons (.con (.str "ab")) (.cons (.con (.str "pq")) (.cons (.con (.str "xyz")) (.cons (.con (.str "z")) .nil)))))) .nil)))) (.cons (.asg "_law_shade_here" 4 (.call "_law_shade" (.cons (.var "_law_deck_here" 1) (.cons (.var "_law_signs" 3) .nil)))) (.cons (.asgO "_law_some" 5 (.lst (.cons (.var "_law_shade_here" 4) .nil))) (.cons (.for_ (.nm "_law_k" 6) (.range1 (.con (.int 14))) (.cons (.asg "_law_bent_here" 7 (.call "_law_bent" (.cons (.var "_law_deck_here" 1) (.cons (.var "_law_shade_here" 4) (.cons (.con (.int 5)) .nil))))) (.cons (.ex (.mut "_law_some" 5 "append" (.cons (.ife (.cmp .Eq (.call "_law_draw" (.cons (.var "_law_deck_here" 1) (.cons (.con (.int 4)) .nil))) (.con (.int 0))) (.call "_law_bent" (.cons (.var "_law_deck_here" 1) (.cons (.var "_law_bent_here" 7) (.cons (.con (.int 5)) .nil)))) (.var "_law_bent_here" 7)) .nil))) .nil))) (.cons (.asgT [("_law_base", 8), ("_law_wide", 9), ("_law_tall", 10), ("_law_tables_here", 11)] false (.var "_law_shade_here" 4)) (.cons (.asgO "_law_some" 5 (.bin .Add (.var "_law_some" 5) (.lst (.cons (.tup (.cons (.var "_law_base" 8) (.cons (.var "_law_tall" 10) (.cons (.var "_law_wide" 9) (.cons (.var "_law_tables_here" 11) .nil))))) (.cons (.tup (.cons (.b1 "max" (.lc (.b1 "max" (.var "_law_line" 12)) (.nm "_law_line" 12) (.val (.sub (.var "_law_tables_here" 11) (.con (.int 0)))) .nil [("_law_line", 12)])) (.cons (.var "_law_wide" 9) (.cons (.var "_law_tall" 10) (.cons (.var "_law_tables_here" 11) .nil))))) .nil))))) (.cons (.asgO "_law_some" 5 (.bin .Add (.var "_law_some" 5) (.lst (.cons (.tup (.cons (.con (.int 1)) (.cons (.con (.int 1)) (.cons (.con (.int 1)) (.cons (.bin .Mult (.tup (.cons (.tup (.cons (.tup (.cons (.con (.int 0)) .nil)) .nil)) .nil)) (.b1 "len" (.var "_law_signs" 3))) .nil))))) (.cons (.tup (.cons (.con (.int 2)) (.cons (.con (.int 1)) (.cons (.con (.int 1)) (.cons (.bin .Mult (.tup (.cons (.tup (.cons (.tup (.cons (.con (.int 1)) .nil)) .nil)) .nil)) (.b1 "len" (.var "_law_signs" 3))) .nil))))) .nil))))) (.cons (.ex (.mut "_law_some" 5 "append" (.cons (.tup (.cons (.con (.int 2)) (.cons (.con (.int 0)) (.cons (.con (.int 0)) (.cons (.bin .Mult (.tup (.cons (.tup .nil) .nil)) (.b1 "len" (.var "_law_signs" 3))) .nil))))) .nil))) (.cons (.for_ (.nm "_law_it" 13) (.val (.var "_law_some" 5)) (.cons (.for_ (.nm "_law_more" 14) (.val (.tup (.cons (.var "_law_signs" 3) (.cons (.con (.str "c")) (.cons (.con (.str "bk")) (.cons (.con (.str "cde")) .nil)))))) (.cons (.ifs (.nt (.call "_law_told_right" (.cons (.var "_law_more" 14) (.cons (.var "_law_it" 13) .nil)))) (.cons (.ret (.con (.bl false))) .nil) .nil) .nil)) .nil)) .nil)))))))))) (.cons (.asgO "_law_odd" 15 (.lst (.cons (.con .non) (.cons (.con (.int 0)) (.cons (.con (.str "")) (.cons (.tup .nil) (.cons (.lst .nil) (.cons (.dnew false) (.cons (.con (.str "colouring")) (.cons (.tup (.cons (.con (.int 2)) (.cons (.con (.int 1)) (.cons (.con (.int 1)) .nil)))) (.cons (.tup (.cons (.con (.int 2)) (.cons (.con (.int 1)) (.cons (.con (.int 1)) (.cons (.tup .nil) .nil))))) (.cons (.lst (.cons (.con (.int 2)) (.cons (.con (.int 1)) (.cons (.con (.int 1)) (.cons (.tup (.cons (.tup (.cons (.tup (.cons (.con (.int 0)) .nil)) .nil)) .nil)) .nil))))) .nil)))))))))))) (.cons (.ex (.mut "_law_odd" 15 "append" (.cons (.tup (.cons (.con (.bl true)) (.cons (.con (.int 1)) (.cons (.con (.int 1)) (.cons (.tup (.cons (.tup (.cons (.tup (.cons (.con (.int 0)) .nil)) .nil)) .nil)) .nil))))) .nil))) (.cons (.ret (.cmp .Eq (.lc (.var "_law_it" 13) (.nm "_law_it" 13) (.val (.var "_law_odd" 15)) (.cons (.nt (.call "_law_told_right" (.cons (.con (.str "a")) (.cons (.var "_law_it" 13) .nil)))) .nil) [("_law_it", 13)]) (.lst .nil))) .nil)))))
end DL.K17
set_option linter.all false
set_option maxRecDepth 100000
set_option maxHeartbeats 0
namespace DL.K17
open PySem PySem.Spec PyProof.Rows L2 DL
/-! ### the code is what it was read as -/
theorem er_is_int (fn : Str → Option Fn) (ki : Str → List D → List Str → List D → Option (List D)) : erSs (stdG fn ki) true N_is_int (defScope s_is_int) b_is_int (defBody s_is_int) = true := by kernel_rfl
theorem er_is_row (fn : Str → Option Fn) (ki : Str → List D → List Str → List D → Option (List D)) : erSs (stdG fn ki) true N_is_row (defScope s_is_row) b_is_row (defBody s_is_row) = true := by kernel_rfl
theorem er_is_table (fn : Str → Option Fn) (ki : Str → List D → List Str → List D → Option (List D)) : erSs (stdG fn ki) true N_is_table (defScope s_is_table) b_is_table (defBody s_is_table) = true := by kernel_rfl
theorem er_is_colouring (fn : Str → Option Fn) (ki : Str → List D → List Str → List D → Option (List D)) : erSs (stdG fn ki) true N_is_colouring (defScope s_is_colouring) b_is_colouring (defBody s_is_colouring) = true := by kernel_rfl
theorem er_l_pick (fn : Str → Option Fn) (ki : Str → List D → List Str → List D → Option (List D)) : erSs (stdG fn ki) true N_l_pick (defScope s_l_pick) b_l_pick (defBody s_l_pick) = true := by kernel_rfl
theorem er_l_tables (fn : Str → Option Fn) (ki : Str → List D → List Str → List D → Option (List D)) : erSs (stdG fn ki) true N_l_tables (defScope s_l_tables) b_l_tables (defBody s_l_tables) = true := by kernel_rfl
theorem er_l_shade (fn : Str → Option Fn) (ki : Str → List D → List Str → List D → Option (List D)) : erSs (stdG fn ki) true N_l_shade (defScope s_l_shade) b_l_shade (defBody s_l_shade) = true := by kernel_rfl
theorem er_l_is_whole (fn : Str → Option Fn) (ki : Str → List D → List Str → List D → Option (List D)) : erSs (stdG fn ki) true N_l_is_whole (defScope s_l_is_whole) b_l_is_whole (defBody s_l_is_whole) = true := by kernel_rfl
theorem er_l_is_line (fn : Str → Option Fn) (ki : Str → List D → List Str → List D → Option (List D)) : erSs (stdG fn ki) true N_l_is_line (defScope s_l_is_line) b_l_is_line (defBody s_l_is_line) = true := by kernel_rfl
theorem er_l_is_shade (fn : Str → Option Fn) (ki : Str → List D → List Str → List D → Option (List D)) : erSs (stdG fn ki) true N_l_is_shade (defScope s_l_is_shade) b_l_is_shade (defBody s_l_is_shade) = true := by kernel_rfl
theorem er_l_bent (fn : Str → Option Fn) (ki : Str → List D → List Str → List D → Option (List D)) : erSs (stdG fn ki) true N_l_bent (defScope s_l_bent) b_l_bent (defBody s_l_bent) = true := by kernel_rfl
theorem er_l_told_right (fn : Str → Option Fn) (ki : Str → List D → List Str → List D → Option (List D)) : erSs (stdG fn ki) true N_l_told_right (defScope s_l_told_right) b_l_told_right (defBody s_l_told_right) = true := by kernel_rfl
def tailP : PYs → PYs
  | .cons _ ps => ps
  | .nil => .nil
theorem er_law (fn : Str → Option Fn) (ki : Str → List D → List Str → List D → Option (List D)) : erSs (stdG fn ki) true N_law (defScope s_law) (tailP b_law) (defBody s_law).tail = true := by kernel_rfl
end DL.K17
set_option maxRecDepth 100000
set_option maxHeartbeats 4000000
set_option linter.all false
namespace DL.K17
open PySem PySem.Spec PyProof.Rows L2 DL
/-! ### the deck -/
def kC : Key := .inr "cells"
def kM : Key := .inr "mixed"
def kD : Key := .inr "draws"
def dko (gl : Addr) (m n : Int) : HO := .dK [(kC, .ref gl), (kM, .int m), (kD, .int n)]
theorem v_C {gl : Addr} {m n : Int} : valV [(kC, .ref gl), (kM, .int m), (kD, .int n)] kC = some (V.ref gl) := by rfl
theorem v_M {gl : Addr} {m n : Int} : valV [(kC, .ref gl), (kM, .int m), (kD, .int n)] kM = some (V.int m) := by rfl
theorem v_D {gl : Addr} {m n : Int} : valV [(kC, .ref gl), (kM, .int m), (kD, .int n)] kD = some (V.int n) := by rfl
theorem p_D {gl : Addr} {m n j : Int} : putK [(kC, V.ref gl), (kM, .int m), (kD, .int n)] kD (.int j) = [(kC, .ref gl), (kM, .int m), (kD, .int j)] := by rfl
def fig (t c many : Int) : Int :=
  (((((((c % 2147483629 + 60271 * t * t + 17) * 40692 % 2147483647) * ((c % 2147483629 + 60271 * t * t + 17) * 40692 % 2147483647) + 69621 * t + 31) % 2147483587) * 39373) % 2147483563) / 64) % many
def drawV (m many : Int) (w : DW) : Int × DW := match w.1.getLast? with
  | none => (fig (w.2 + 1) m many, (w.1, w.2 + 1))
  | some c => if c ≥ 1000000000000000000 then (c % many, (w.1.dropLast ++ [c / many], w.2 + 1)) else (fig (w.2 + 1) (c + m) many, (w.1.dropLast, w.2 + 1))
def dOk (m many : Int) (w : DW) : Prop := 0 < many ∧ many.natAbs.log2 < 200 ∧ 0 ≤ w.2 ∧ w.2 < 1000000 ∧ w.1.length ≤ 63
instance {m many : Int} {w : DW} : Decidable (dOk m many w) := by unfold dOk; infer_instance
def F_draw (m : Int) : Fn := fun ds w => match ds with
  | [.deck, .int many] => if dOk m many w then .ok (.int (drawV m many w).1) (drawV m many w).2 else .stuck
  | _ => .stuck
def spD (G : GC) (F : Fn) : Sp := fun vs H Q E => ∃ (Bd : Addr → Prop) (ds : List D) (w : DW), BdOk G Bd H ∧ DkD G H w ∧ DtL G (fun a => ¬ Bd a) H ds vs ∧ PostC G Bd H (F ds w) Q E
/-- a def of the layer, by its promise -/
theorem fnD_ok {G : GC} {P : Program} {wd : World} {base : Heap} {k : Nat} {f : Addr} {fd : FuncData} {ps : List Str} {F : Fn} (hl : ∀ ds w, F ds w ≠ .stuck → ds.length = ps.length) (h : FnOk P wd G.K G.mg base (L2.CX P wd) k f fd ps (spD G F)) : FnD G P wd base k f fd ps F :=
  ⟨hl, fun A outer s H args us vs Q E Bd ds w hg hr e0 hb r hbd hdk dl hp => h.run A outer s H args us vs Q E hr e0 hb r ⟨Bd, ds, w, hbd, hdk, dl, hp⟩⟩
section
variable {H : Hp} {dk gl : Addr} {m n j : Int}
theorem dget_C (h : H dk = some (dko gl m n)) : DGet H dk (.str "cells") (some (.ref gl)) := by
  have e := DGet.k (k := kC) h
  rw [v_C] at e
  exact e
theorem dget_M (h : H dk = some (dko gl m n)) : DGet H dk (.str "mixed") (some (.int m)) := by
  have e := DGet.k (k := kM) h
  rw [v_M] at e
  exact e
theorem dget_D (h : H dk = some (dko gl m n)) : DGet H dk (.str "draws") (some (.int n)) := by
  have e := DGet.k (k := kD) h
  rw [v_D] at e
  exact e
theorem dput_D (h : H dk = some (dko gl m n)) : DPut H dk (.str "draws") (.int j) (upd H dk (dko gl m j)) := by
  have e := DPut.k (k := kD) (v := .int j) h (by show 3 < sizeLine; decide)
  rw [p_D] at e
  exact e
end
theorem len_draw {m : Int} (ds : List D) (w : DW) (h : F_draw m ds w ≠ .stuck) : ds.length = P_l_draw.length := by
  unfold F_draw at h
  split at h
  · rfl
  · exact absurd rfl h
theorem ifF {c : Bool} {A B : Prop} (hc : c = false) (h : B) : if c = true then A else B := by rw [hc, if_neg Bool.false_ne_true]; exact h
theorem ifT {c : Bool} {A B : Prop} (hc : c = true) (h : A) : if c = true then A else B := by rw [hc, if_pos rfl]; exact h
theorem ok_draw {G : GC} {P : Program} {wd : World} {base : Heap} {m : Int} {f : Addr} {fd : FuncData} (hf : ∀ n, G.df n = dko G.gl m n) (hm : 0 ≤ m ∧ m < 2147483648) (hi : G.mg "int" = none)
    (F : FunD G.K "_law_draw" "_law_draw" (defArgs s_l_draw) (defBody s_l_draw) (defScope s_l_draw) [] [] f fd) : FnOk P wd G.K G.mg base (L2.CX P wd) 1 f fd P_l_draw (spD G (F_draw m)) := by
  refine F.ok sc_l_draw (fun vs H Q E ⟨Bd, ds, w, _, _, dl, h⟩ => ?_) (fun cdv A outer s H vs Q E hr h => ?_)
  · rw [← dl.length]
    exact len_draw ds w fun z => by rw [z] at h; exact h
  have hu := hu_of hr
  have nd := sc_l_draw.nd
  have hint : bootBuiltins "int" = some (.type "int") := by decide +kernel
  refine ⟨_, pss_cons (ps_dput hu (pv 0) pe_str (pe_op op_add (pe_dget hu (pv 0) pe_str (fun _ _ => rfl)) pe_int) rfl)
    (pss_cons (ps_par (i := 2) (j := 3) rfl nd rfl rfl (by decide) (by rfl) (by rfl) (pa_cons (pe_dget hu (pv 0) pe_str (fun _ _ => rfl)) (pa_cons (pe_dget hu (pv 0) pe_str (fun _ _ => rfl)) pa_nil)) (by rfl))
    (pss_cons (ps_if (pt_cmpR (op_neE hu) (pe_dget hu (pv 0) pe_str (fun _ _ => rfl)) (pe_lst pa_nil) (nomark _))
      (pss_cons (ps_set (i := 3) nd rfl (Or.inl (by rfl)) (pe_bm0 PySem.F.plainAttrs_list PySem.F.slot_list_pop PySem.F.type_list_pop mt_pop (pe_dget hu (pv 0) pe_str (fun _ _ => rfl))))
      (pss_cons (ps_if (pt_cmpR op_ge (pv 3) (pe_op op_pow pe_int pe_int) (nomark _))
        (pss_cons (ps_expr (pe_bm PySem.F.plainAttrs_list PySem.F.slot_list_append PySem.F.type_list_append mt_append (pe_dget hu (pv 0) pe_str (fun _ _ => rfl)) (pa_cons (pe_op op_fdivW (pv 3) (pv 1)) pa_nil)))
        (pss_one (ps_ret (pe_op op_mod (pe_callTy call_int1 (by rfl) hi hint (pa_cons (pv 3) pa_nil)) (pv 1)))))
        pss_nil)
      (pss_one (ps_set (i := 3) nd rfl (Or.inl (by rfl)) (pe_op op_add (pv 3) (pe_dget hu (pv 0) pe_str (fun _ _ => rfl)))))))
      pss_nil)
    (pss_cons (ps_set (i := 4) nd rfl (Or.inl (by rfl)) (pe_op op_mod (pe_op op_mul (pe_callTy call_int1 (by rfl) hi hint (pa_cons (pe_op op_add (pe_op op_add (pe_op op_mod (pe_callTy call_int1 (by rfl) hi hint (pa_cons (pv 3) pa_nil)) pe_int) (pe_op op_mul (pe_op op_mul pe_int (pv 2)) (pv 2))) pe_int) pa_nil)) pe_int) pe_int))
    (pss_cons (ps_set (i := 4) nd rfl (Or.inl (by rfl)) (pe_op op_mod (pe_callTy call_int1 (by rfl) hi hint (pa_cons (pe_op op_add (pe_op op_add (pe_op op_mul (pv 4) (pv 4)) (pe_op op_mul pe_int (pv 2))) pe_int) pa_nil)) pe_int))
    (pss_one (ps_ret (pe_op op_mod (pe_op op_fdiv (pe_op op_mod (pe_callTy call_int1 (by rfl) hi hint (pa_cons (pe_op op_mul (pv 4) pe_int) pa_nil)) pe_int) pe_int) (pv 1)))))))), ?_⟩
  obtain ⟨Bd, ds, w, bd, dkd, dl, hp⟩ := h
  unfold F_draw at hp
  split at hp
  · rename_i many
    split at hp
    · rename_i hok
      obtain ⟨v1, r1, e1, h1, v2, r2, e2, h2, h3⟩ := dl
      subst e1
      subst e2
      cases (show v1 = V.ref G.dk from h1)
      cases (show v2 = V.int many from h2)
      cases (show r2 = [] from h3)
      have d0 : H G.dk = some (dko G.gl m w.2) := by rw [← hf]; exact dkd.dk
      have g0 : H G.gl = some (.lst (w.1.map V.int)) := dkd.gl
      have ne : G.dk ≠ G.gl := ne_of d0 g0 (by intro z; cases z)
      obtain ⟨hm0, hml, hn0, hn1, hlen⟩ := hok
      have d1 : upd H G.dk (dko G.gl m (w.2 + 1)) G.dk = some (dko G.gl m (w.2 + 1)) := upd_same
      have g1 : upd H G.dk (dko G.gl m (w.2 + 1)) G.gl = some (.lst (w.1.map V.int)) := by rw [upd_ne (Ne.symm ne)]; exact g0
      refine ⟨_, rfl, _, _, rfl, dget_D d0, _, _, rfl, rfl, _, rfl, _, _, rfl, dput_D d0, ?_⟩
      refine ⟨_, rfl, _, _, rfl, dget_D d1, _, rfl, _, _, rfl, dget_M d1, _, _, rfl, ?_⟩
      refine ⟨_, rfl, _, _, rfl, dget_C d1, Nat.zero_le _, fun p np => ?_⟩
      have d2 : upd (upd H G.dk (dko G.gl m (w.2 + 1))) p (.lst []) G.dk = some (dko G.gl m (w.2 + 1)) := by rw [upd_ne (ne_of_none d1 np)]; exact d1
      have g2 : upd (upd H G.dk (dko G.gl m (w.2 + 1))) p (.lst []) G.gl = some (.lst (w.1.map V.int)) := by rw [upd_ne (ne_of_none g1 np)]; exact g1
      refine ⟨_, _, _, rfl, rfl, .inl ⟨.inl (.inl g2), .inl (.inl upd_same)⟩, _, rfl, ?_⟩
      have st1 : ∀ {K : Hp}, (∀ a, a ≠ G.dk → a ≠ G.gl → K a = upd (upd H G.dk (dko G.gl m (w.2 + 1))) p (.lst []) a) → K G.dk ≠ none → K G.gl ≠ none → Stp G [] H K := fun {K} hK n1 n2 => by
        have old : ∀ a o, H a = some o → a ≠ G.dk → a ≠ G.gl → K a = some o := fun a o e na nb => by
          rw [hK a na nb, upd_ne (fun z => by subst z; rw [upd_ne na] at np; rw [np] at e; cases e), upd_ne na]
          exact e
        refine ⟨fun a o e _ na nb => old a o e na nb, fun a xs e => old a _ e (fun z => by subst z; rw [d0] at e; cases e) (fun z => by subst z; rw [g0] at e; cases e), fun a e => ?_⟩
        by_cases za : a = G.dk
        · rw [za]; exact n1
        by_cases zb : a = G.gl
        · rw [zb]; exact n2
        cases q : H a with
        | none => exact absurd q e
        | some o => rw [old a o q za zb]; simp
      obtain ⟨cs, n⟩ := w
      cases hcs : cs.getLast? with
      | none =>
        have hnil : cs = [] := by simpa using hcs
        subst hnil
        refine ifF rfl ?_
        refine ⟨_, rfl, .inl ⟨_, rfl, _, _, rfl, rfl, (by show (0 : Int) < _; decide), _, rfl, _, _, rfl, rfl, .inl ⟨by decide, by decide⟩, _, rfl, _, _, rfl, rfl, .inr ⟨by omega, by omega⟩, _, _, rfl, rfl, _, _, rfl, rfl, .inl ⟨_, rfl, _, _, rfl, rfl, .inr ⟨by decide, by decide⟩, _, _, rfl, rfl, (by show (0 : Int) < _; decide), ?_⟩⟩⟩
        refine ⟨_, rfl, _, rfl, _, _, rfl, rfl, .inl ⟨by omega, by omega⟩, _, rfl, _, _, rfl, rfl, .inl ⟨by decide, by decide⟩, _, _, rfl, rfl, _, _, rfl, rfl, .inl ⟨_, rfl, _, _, rfl, rfl, (by show (0 : Int) < _; decide), ?_⟩⟩
        refine ⟨_, rfl, _, _, rfl, rfl, .inr ⟨by decide, by decide⟩, .inl ⟨_, rfl, _, _, rfl, rfl, (by show (0 : Int) < _; decide), _, _, rfl, rfl, ⟨by decide, by decide⟩, _, rfl, _, _, rfl, rfl, hm0, ?_⟩⟩
        have hv : drawV m many (([] : List Int), n) = (fig (n + 1) m many, ([], n + 1)) := rfl
        rw [hv] at hp
        refine hp _ _ (st1 (fun _ _ _ => rfl) (by rw [d2]; simp) (by rw [g2]; simp)) ⟨by rw [hf]; exact d2, g2⟩ rfl
      | some c =>
        have hne : cs ≠ [] := by rintro rfl; cases hcs
        have hlast : cs[cs.length - 1]? = some c := by rw [← List.getLast?_eq_getElem?]; exact hcs
        have hlen' : cs.length ≤ 63 := hlen
        refine ifT (by cases cs with
          | nil => exact absurd rfl hne
          | cons a b => rfl) ?_
        have g3 : upd (upd (upd H G.dk (dko G.gl m (n + 1))) p (.lst [])) G.gl (.lst (cs.map V.int).dropLast) G.gl = some (.lst (cs.map V.int).dropLast) := upd_same
        have d3 : upd (upd (upd H G.dk (dko G.gl m (n + 1))) p (.lst [])) G.gl (.lst (cs.map V.int).dropLast) G.dk = some (dko G.gl m (n + 1)) := by rw [upd_ne ne]; exact d2
        refine ⟨_, rfl, _, _, rfl, dget_C d2, .inl ⟨rfl, _, .inl (.inl g2)⟩, _, _, .int c, rfl, rfl, g2, by rw [List.length_map, List.getElem?_map, hlast]; rfl, ?_⟩
        have hpow : ((10 : Int) ^ (18 : Int).toNat) = 1000000000000000000 := by decide
        refine ⟨_, rfl, _, _, rfl, rfl, ⟨by decide, by decide, by decide⟩, _, _, rfl, rfl, _, rfl, ?_⟩
        by_cases hbig : c ≥ 1000000000000000000
        · refine ifT (decide_eq_true (by rw [hpow]; exact hbig)) ?_
          refine ⟨_, rfl, _, _, rfl, dget_C d3, .inl ⟨rfl, _, .inl (.inl g3)⟩, _, rfl, _, rfl, _, _, rfl, rfl, ⟨hm0, by omega⟩, _, _, _, rfl, rfl, g3, by rw [List.length_dropLast, List.length_map, sizeLine_eq]; omega, ?_⟩
          refine ⟨_, rfl, .inl ⟨_, rfl, _, rfl, _, _, rfl, rfl, hm0, ?_⟩⟩
          have hv : drawV m many (cs, n) = (c % many, (cs.dropLast ++ [c / many], n + 1)) := by
            unfold drawV
            simp only [hcs]
            rw [if_pos hbig]
          rw [hv] at hp
          have g4 : upd (upd (upd (upd H G.dk (dko G.gl m (n + 1))) p (.lst [])) G.gl (.lst (cs.map V.int).dropLast)) G.gl (.lst ((cs.map V.int).dropLast ++ [V.int (c / many)])) G.gl = some (.lst ((cs.map V.int).dropLast ++ [V.int (c / many)])) := upd_same
          have d4 : upd (upd (upd (upd H G.dk (dko G.gl m (n + 1))) p (.lst [])) G.gl (.lst (cs.map V.int).dropLast)) G.gl (.lst ((cs.map V.int).dropLast ++ [V.int (c / many)])) G.dk = some (dko G.gl m (n + 1)) := by rw [upd_ne ne]; exact d3
          refine hp _ _ (st1 (fun a _ nb => by rw [upd_ne nb, upd_ne nb]) (by rw [d4]; simp) (by rw [g4]; simp)) ⟨by rw [hf]; exact d4, ?_⟩ rfl
          rw [g4, List.map_append, List.map_dropLast]
          rfl
        · refine ifF (decide_eq_false (by rw [hpow]; exact hbig)) ?_
          refine ⟨_, rfl, _, rfl, _, _, rfl, dget_M d3, _, _, rfl, rfl, ?_⟩
          refine ⟨_, rfl, .inl ⟨_, rfl, _, _, rfl, rfl, (by show (0 : Int) < _; decide), _, rfl, _, _, rfl, rfl, .inl ⟨by decide, by decide⟩, _, rfl, _, _, rfl, rfl, .inr ⟨by omega, by omega⟩, _, _, rfl, rfl, _, _, rfl, rfl, .inl ⟨_, rfl, _, _, rfl, rfl, .inr ⟨by decide, by decide⟩, _, _, rfl, rfl, (by show (0 : Int) < _; decide), ?_⟩⟩⟩
          refine ⟨_, rfl, _, rfl, _, _, rfl, rfl, .inl ⟨by omega, by omega⟩, _, rfl, _, _, rfl, rfl, .inl ⟨by decide, by decide⟩, _, _, rfl, rfl, _, _, rfl, rfl, .inl ⟨_, rfl, _, _, rfl, rfl, (by show (0 : Int) < _; decide), ?_⟩⟩
          refine ⟨_, rfl, _, _, rfl, rfl, .inr ⟨by decide, by decide⟩, .inl ⟨_, rfl, _, _, rfl, rfl, (by show (0 : Int) < _; decide), _, _, rfl, rfl, ⟨by decide, by decide⟩, _, rfl, _, _, rfl, rfl, hm0, ?_⟩⟩
          have hv : drawV m many (cs, n) = (fig (n + 1) (c + m) many, (cs.dropLast, n + 1)) := by
            unfold drawV
            simp only [hcs]
            rw [if_neg hbig]
          rw [hv] at hp
          refine hp _ _ (st1 (fun a _ nb => upd_ne nb) (by rw [d3]; simp) (by rw [g3]; simp)) ⟨by rw [hf]; exact d3, by rw [g3, List.map_dropLast]⟩ rfl
    · exact hp.elim
  · exact hp.elim
end DL.K17
set_option maxRecDepth 100000
set_option maxHeartbeats 1000000
set_option linter.all false
namespace DL
open PySem PySem.Spec PyProof.Rows L2
/-! ### reading code by rewriting -/
section
variable {α β : Type} {ρ : En} {w : DW} {Γ : Gm}
theorem q_bind {a : α} {k : α → En → DW → R β} : R.bind (.ok a ρ w) k = k a ρ w := rfl
theorem q_bindS {a : α} {k : α → En → DW → RS} : R.bindS (.ok a ρ w) k = k a ρ w := rfl
theorem q_of {d : α} : R.of (some d) ρ w = .ok d ρ w := rfl
theorem q_at {d : D} : (RW.ok d w).at ρ = .ok d ρ w := rfl
theorem q_rw {d : D} : RW.of (some d) w = .ok d w := rfl
theorem q_seq_nx {k : En → DW → RS} : (RS.nx ρ w).seq k = k ρ w := rfl
theorem q_seq_rt {d : D} {k : En → DW → RS} : (RS.rt d w).seq k = .rt d w := rfl
def vd (o : Option Sl) (i : Nat) (ρ : En) (w : DW) : R D := match o with
  | some (.dat d) => .ok d ρ w
  | some (.own d) => .ok d (ρ.set i (.dat d)) w
  | _ => .stuck
theorem q_var {i : Nat} : varD i ρ w = vd ρ[i]? i ρ w := rfl
theorem vd_dat {i : Nat} {d : D} : vd (some (.dat d)) i ρ w = .ok d ρ w := rfl
theorem vd_own {i : Nat} {d : D} : vd (some (.own d)) i ρ w = .ok d (ρ.set i (.dat d)) w := rfl
def rdo (o : Option Sl) : Option D := match o with
  | some (.dat d) => some d
  | some (.own d) => some d
  | _ => none
theorem q_rd {i : Nat} : rd ρ i = rdo ρ[i]? := rfl
theorem rdo_dat {d : D} : rdo (some (.dat d)) = some d := rfl
theorem rdo_own {d : D} : rdo (some (.own d)) = some d := rfl
theorem q_brw_var {x : Str} {i : Nat} {f : En → DW → R D} : brw (.var x i) f ρ w = R.of (rd ρ i) ρ w := rfl
theorem q_brw {p : PX} {f : En → DW → R D} (h : p.ix = none) : brw p f ρ w = f ρ w := by
  unfold brw
  rw [h]
def thV (o : Option D) (k : D → En → DW → R D) (ρ : En) (w : DW) : R D := match o with
  | some x => k x ρ w
  | none => .stuck
def twV (o : Option D) (i : Nat) (fb : En → DW → R D) (k : D → D → En → DW → R D) (ρ : En) (w : DW) : R D := if o.isSome then (fb ρ w).bind fun y ρ w => thV (rd ρ i) (fun x ρ w => k x y ρ w) ρ w else .stuck
theorem thV_some {d : D} {k : D → En → DW → R D} : thV (some d) k ρ w = k d ρ w := rfl
theorem twV_some {d : D} {i : Nat} {fb : En → DW → R D} {k : D → D → En → DW → R D} : twV (some d) i fb k ρ w = (fb ρ w).bind fun y ρ w => thV (rd ρ i) (fun x ρ w => k x y ρ w) ρ w := rfl
theorem q_two_var {x : Str} {i : Nat} {fa fb : En → DW → R D} {k : D → D → En → DW → R D} : two (.var x i) fa fb k ρ w = twV (rd ρ i) i fb k ρ w := rfl
theorem q_two {p : PX} {fa fb : En → DW → R D} {k : D → D → En → DW → R D} (h : p.ix = none) : two p fa fb k ρ w = (fa ρ w).bind fun x ρ w => (fb ρ w).bind fun y ρ w => k x y ρ w := by
  unfold two
  rw [h]
theorem q_evT {p : PX} (h : simpT p = true) : evT Γ p ρ w = (brw p (ev Γ p) ρ w).bind fun d ρ w => R.of (Γ.tru d) ρ w := by rw [evT_val h]
theorem q_and {b : Bool} {x : D} {f : En → DW → R D} : andD (some b) x f ρ w = if b then f ρ w else .ok x ρ w := by cases b <;> rfl
theorem q_or {b : Bool} {x : D} {f : En → DW → R D} : orD (some b) x f ρ w = if b then .ok x ρ w else f ρ w := by cases b <;> rfl
theorem q_chain {b : Bool} {f : En → DW → R D} : chainD (.bl b) f ρ w = if b then f ρ w else .ok (.bl false) ρ w := by cases b <;> rfl
theorem q_callD {F : Fn} {ds : En → DW → R (List D)} : callD (some F) ds ρ w = (ds ρ w).bind fun ds ρ w => (F ds w).at ρ := rfl
def kiR (o : Option (List D)) (F : Fn) (ρ : En) (w : DW) : R D := match o with
  | some ds => (F ds w).at ρ
  | none => .stuck
theorem kiR_some {ds : List D} {F : Fn} : kiR (some ds) F ρ w = (F ds w).at ρ := rfl
theorem q_callKD {F : Fn} {ds us : En → DW → R (List D)} {ki : List D → List D → Option (List D)} : callKD (some F) ds us ki ρ w = (ds ρ w).bind fun ds ρ w => (us ρ w).bind fun us ρ w => kiR (ki ds us) F ρ w := rfl
theorem q_b1F {F : D → Option D} {F1 : Option (D → DW → RW)} {x : En → DW → R D} : b1D (some F) F1 x ρ w = (x ρ w).bind fun x ρ w => R.of (F x) ρ w := rfl
theorem q_b1 {F : D → DW → RW} {x : En → DW → R D} : b1D none (some F) x ρ w = (x ρ w).bind fun x ρ w => (F x w).at ρ := rfl
theorem q_isi {F : D → Option Bool} {x : En → DW → R D} : isiD (some F) x ρ w = (x ρ w).bind fun x ρ w => R.of ((F x).map .bl) ρ w := rfl
theorem q_mut {kd : Nat} {F : D → List D → Option (D × D)} {i : Nat} {es : En → DW → R (List D)} (h : ownK i ρ = some kd) : mutGD (some (kd, F)) i es ρ w = (es ρ w).bind fun ds ρ w => mutD F i ds ρ w := by
  show (if ownK i ρ = some kd then _ else _) = _
  rw [if_pos h]
def oko (o : Option Sl) : Option Nat := match o with
  | some (.own d) => some (kindD d)
  | _ => none
theorem q_ownK {i : Nat} : ownK i ρ = oko ρ[i]? := rfl
theorem oko_own {d : D} : oko (some (.own d)) = some (kindD d) := rfl
def mdr (o : Option (D × D)) (i : Nat) (ρ : En) (w : DW) : R D := match o with
  | some (d', r) => .ok r (ρ.set i (.own d')) w
  | none => .stuck
def mdo (o : Option Sl) (F : D → List D → Option (D × D)) (i : Nat) (ds : List D) (ρ : En) (w : DW) : R D := match o with
  | some (.own d) => mdr (F d ds) i ρ w
  | _ => .stuck
theorem q_mutD {i : Nat} {ds : List D} {F : D → List D → Option (D × D)} : mutD F i ds ρ w = mdo ρ[i]? F i ds ρ w := rfl
theorem mdo_own {d : D} {i : Nat} {ds : List D} {F : D → List D → Option (D × D)} : mdo (some (.own d)) F i ds ρ w = mdr (F d ds) i ρ w := rfl
theorem mdr_some {d r : D} {i : Nat} : mdr (some (d, r)) i ρ w = .ok r (ρ.set i (.own d)) w := rfl
theorem q_append {ds : List D} {d : D} (h : ds.length < lim) : appendF (.lst ds) [d] = some (.lst (ds ++ [d]), .non) := if_pos h
theorem bw_con {d : D} {f : En → DW → R D} : brw (.con d) f ρ w = f ρ w := rfl
theorem tw_con {d : D} {fa fb : En → DW → R D} {k : D → D → En → DW → R D} : two (.con d) fa fb k ρ w = (fa ρ w).bind fun x ρ w => (fb ρ w).bind fun y ρ w => k x y ρ w := rfl
theorem et_con {d : D} : evT Γ (.con d) ρ w = (ev Γ (.con d) ρ w).bind fun d ρ w => R.of (Γ.tru d) ρ w := by rw [q_evT rfl]; rfl
theorem bw_glob {x : Str} {f : En → DW → R D} : brw (.glob x) f ρ w = f ρ w := rfl
theorem tw_glob {x : Str} {fa fb : En → DW → R D} {k : D → D → En → DW → R D} : two (.glob x) fa fb k ρ w = (fa ρ w).bind fun x ρ w => (fb ρ w).bind fun y ρ w => k x y ρ w := rfl
theorem et_glob {x : Str} : evT Γ (.glob x) ρ w = (ev Γ (.glob x) ρ w).bind fun d ρ w => R.of (Γ.tru d) ρ w := by rw [q_evT rfl]; rfl
theorem bw_bin {o : Operator} {a b : PX} {f : En → DW → R D} : brw (.bin o a b) f ρ w = f ρ w := rfl
theorem tw_bin {o : Operator} {a b : PX} {fa fb : En → DW → R D} {k : D → D → En → DW → R D} : two (.bin o a b) fa fb k ρ w = (fa ρ w).bind fun x ρ w => (fb ρ w).bind fun y ρ w => k x y ρ w := rfl
theorem et_bin {o : Operator} {a b : PX} : evT Γ (.bin o a b) ρ w = (ev Γ (.bin o a b) ρ w).bind fun d ρ w => R.of (Γ.tru d) ρ w := by rw [q_evT rfl]; rfl
theorem bw_neg {a : PX} {f : En → DW → R D} : brw (.neg a) f ρ w = f ρ w := rfl
theorem tw_neg {a : PX} {fa fb : En → DW → R D} {k : D → D → En → DW → R D} : two (.neg a) fa fb k ρ w = (fa ρ w).bind fun x ρ w => (fb ρ w).bind fun y ρ w => k x y ρ w := rfl
theorem et_neg {a : PX} : evT Γ (.neg a) ρ w = (ev Γ (.neg a) ρ w).bind fun d ρ w => R.of (Γ.tru d) ρ w := by rw [q_evT rfl]; rfl
theorem bw_nt {a : PX} {f : En → DW → R D} : brw (.nt a) f ρ w = f ρ w := rfl
theorem tw_nt {a : PX} {fa fb : En → DW → R D} {k : D → D → En → DW → R D} : two (.nt a) fa fb k ρ w = (fa ρ w).bind fun x ρ w => (fb ρ w).bind fun y ρ w => k x y ρ w := rfl
theorem bw_and {a b : PX} {f : En → DW → R D} : brw (.and a b) f ρ w = f ρ w := rfl
theorem tw_and {a b : PX} {fa fb : En → DW → R D} {k : D → D → En → DW → R D} : two (.and a b) fa fb k ρ w = (fa ρ w).bind fun x ρ w => (fb ρ w).bind fun y ρ w => k x y ρ w := rfl
theorem bw_or {a b : PX} {f : En → DW → R D} : brw (.or a b) f ρ w = f ρ w := rfl
theorem tw_or {a b : PX} {fa fb : En → DW → R D} {k : D → D → En → DW → R D} : two (.or a b) fa fb k ρ w = (fa ρ w).bind fun x ρ w => (fb ρ w).bind fun y ρ w => k x y ρ w := rfl
theorem bw_cmp {o : CmpOp} {a b : PX} {f : En → DW → R D} : brw (.cmp o a b) f ρ w = f ρ w := rfl
theorem tw_cmp {o : CmpOp} {a b : PX} {fa fb : En → DW → R D} {k : D → D → En → DW → R D} : two (.cmp o a b) fa fb k ρ w = (fa ρ w).bind fun x ρ w => (fb ρ w).bind fun y ρ w => k x y ρ w := rfl
theorem et_cmp {o : CmpOp} {a b : PX} : evT Γ (.cmp o a b) ρ w = (ev Γ (.cmp o a b) ρ w).bind fun d ρ w => R.of (Γ.tru d) ρ w := by rw [q_evT rfl]; rfl
theorem bw_chain {o p : CmpOp} {a b c : PX} {f : En → DW → R D} : brw (.chain o p a b c) f ρ w = f ρ w := rfl
theorem tw_chain {o p : CmpOp} {a b c : PX} {fa fb : En → DW → R D} {k : D → D → En → DW → R D} : two (.chain o p a b c) fa fb k ρ w = (fa ρ w).bind fun x ρ w => (fb ρ w).bind fun y ρ w => k x y ρ w := rfl
theorem et_chain {o p : CmpOp} {a b c : PX} : evT Γ (.chain o p a b c) ρ w = (ev Γ (.chain o p a b c) ρ w).bind fun d ρ w => R.of (Γ.tru d) ρ w := by rw [q_evT rfl]; rfl
theorem bw_ife {c a b : PX} {f : En → DW → R D} : brw (.ife c a b) f ρ w = f ρ w := rfl
theorem tw_ife {c a b : PX} {fa fb : En → DW → R D} {k : D → D → En → DW → R D} : two (.ife c a b) fa fb k ρ w = (fa ρ w).bind fun x ρ w => (fb ρ w).bind fun y ρ w => k x y ρ w := rfl
theorem et_ife {c a b : PX} : evT Γ (.ife c a b) ρ w = (ev Γ (.ife c a b) ρ w).bind fun d ρ w => R.of (Γ.tru d) ρ w := by rw [q_evT rfl]; rfl
theorem bw_tup {es : PXs} {f : En → DW → R D} : brw (.tup es) f ρ w = f ρ w := rfl
theorem tw_tup {es : PXs} {fa fb : En → DW → R D} {k : D → D → En → DW → R D} : two (.tup es) fa fb k ρ w = (fa ρ w).bind fun x ρ w => (fb ρ w).bind fun y ρ w => k x y ρ w := rfl
theorem et_tup {es : PXs} : evT Γ (.tup es) ρ w = (ev Γ (.tup es) ρ w).bind fun d ρ w => R.of (Γ.tru d) ρ w := by rw [q_evT rfl]; rfl
theorem bw_lst {es : PXs} {f : En → DW → R D} : brw (.lst es) f ρ w = f ρ w := rfl
theorem tw_lst {es : PXs} {fa fb : En → DW → R D} {k : D → D → En → DW → R D} : two (.lst es) fa fb k ρ w = (fa ρ w).bind fun x ρ w => (fb ρ w).bind fun y ρ w => k x y ρ w := rfl
theorem et_lst {es : PXs} : evT Γ (.lst es) ρ w = (ev Γ (.lst es) ρ w).bind fun d ρ w => R.of (Γ.tru d) ρ w := by rw [q_evT rfl]; rfl
theorem bw_dnew {t : Bool} {f : En → DW → R D} : brw (.dnew t) f ρ w = f ρ w := rfl
theorem tw_dnew {t : Bool} {fa fb : En → DW → R D} {k : D → D → En → DW → R D} : two (.dnew t) fa fb k ρ w = (fa ρ w).bind fun x ρ w => (fb ρ w).bind fun y ρ w => k x y ρ w := rfl
theorem et_dnew {t : Bool} : evT Γ (.dnew t) ρ w = (ev Γ (.dnew t) ρ w).bind fun d ρ w => R.of (Γ.tru d) ρ w := by rw [q_evT rfl]; rfl
theorem bw_sub {a i : PX} {f : En → DW → R D} : brw (.sub a i) f ρ w = f ρ w := rfl
theorem tw_sub {a i : PX} {fa fb : En → DW → R D} {k : D → D → En → DW → R D} : two (.sub a i) fa fb k ρ w = (fa ρ w).bind fun x ρ w => (fb ρ w).bind fun y ρ w => k x y ρ w := rfl
theorem et_sub {a i : PX} : evT Γ (.sub a i) ρ w = (ev Γ (.sub a i) ρ w).bind fun d ρ w => R.of (Γ.tru d) ρ w := by rw [q_evT rfl]; rfl
theorem bw_slc {a : PX} {lo hi : PXs} {f : En → DW → R D} : brw (.slc a lo hi) f ρ w = f ρ w := rfl
theorem tw_slc {a : PX} {lo hi : PXs} {fa fb : En → DW → R D} {k : D → D → En → DW → R D} : two (.slc a lo hi) fa fb k ρ w = (fa ρ w).bind fun x ρ w => (fb ρ w).bind fun y ρ w => k x y ρ w := rfl
theorem et_slc {a : PX} {lo hi : PXs} : evT Γ (.slc a lo hi) ρ w = (ev Γ (.slc a lo hi) ρ w).bind fun d ρ w => R.of (Γ.tru d) ρ w := by rw [q_evT rfl]; rfl
theorem bw_rev {a : PX} {f : En → DW → R D} : brw (.rev a) f ρ w = f ρ w := rfl
theorem tw_rev {a : PX} {fa fb : En → DW → R D} {k : D → D → En → DW → R D} : two (.rev a) fa fb k ρ w = (fa ρ w).bind fun x ρ w => (fb ρ w).bind fun y ρ w => k x y ρ w := rfl
theorem et_rev {a : PX} : evT Γ (.rev a) ρ w = (ev Γ (.rev a) ρ w).bind fun d ρ w => R.of (Γ.tru d) ρ w := by rw [q_evT rfl]; rfl
theorem bw_call {g : Str} {es : PXs} {f : En → DW → R D} : brw (.call g es) f ρ w = f ρ w := rfl
theorem tw_call {g : Str} {es : PXs} {fa fb : En → DW → R D} {k : D → D → En → DW → R D} : two (.call g es) fa fb k ρ w = (fa ρ w).bind fun x ρ w => (fb ρ w).bind fun y ρ w => k x y ρ w := rfl
theorem et_call {g : Str} {es : PXs} : evT Γ (.call g es) ρ w = (ev Γ (.call g es) ρ w).bind fun d ρ w => R.of (Γ.tru d) ρ w := by rw [q_evT rfl]; rfl
theorem bw_callK {g : Str} {es vs : PXs} {ks : List Str} {f : En → DW → R D} : brw (.callK g es ks vs) f ρ w = f ρ w := rfl
theorem tw_callK {g : Str} {es vs : PXs} {ks : List Str} {fa fb : En → DW → R D} {k : D → D → En → DW → R D} : two (.callK g es ks vs) fa fb k ρ w = (fa ρ w).bind fun x ρ w => (fb ρ w).bind fun y ρ w => k x y ρ w := rfl
theorem et_callK {g : Str} {es vs : PXs} {ks : List Str} : evT Γ (.callK g es ks vs) ρ w = (ev Γ (.callK g es ks vs) ρ w).bind fun d ρ w => R.of (Γ.tru d) ρ w := by rw [q_evT rfl]; rfl
theorem bw_b1 {g : Str} {a : PX} {f : En → DW → R D} : brw (.b1 g a) f ρ w = f ρ w := rfl
theorem tw_b1 {g : Str} {a : PX} {fa fb : En → DW → R D} {k : D → D → En → DW → R D} : two (.b1 g a) fa fb k ρ w = (fa ρ w).bind fun x ρ w => (fb ρ w).bind fun y ρ w => k x y ρ w := rfl
theorem et_b1 {g : Str} {a : PX} : evT Γ (.b1 g a) ρ w = (ev Γ (.b1 g a) ρ w).bind fun d ρ w => R.of (Γ.tru d) ρ w := by rw [q_evT rfl]; rfl
theorem bw_mth {o : PX} {m : Str} {es : PXs} {f : En → DW → R D} : brw (.mth o m es) f ρ w = f ρ w := rfl
theorem tw_mth {o : PX} {m : Str} {es : PXs} {fa fb : En → DW → R D} {k : D → D → En → DW → R D} : two (.mth o m es) fa fb k ρ w = (fa ρ w).bind fun x ρ w => (fb ρ w).bind fun y ρ w => k x y ρ w := rfl
theorem et_mth {o : PX} {m : Str} {es : PXs} : evT Γ (.mth o m es) ρ w = (ev Γ (.mth o m es) ρ w).bind fun d ρ w => R.of (Γ.tru d) ρ w := by rw [q_evT rfl]; rfl
theorem bw_mut {x : Str} {i : Nat} {m : Str} {es : PXs} {f : En → DW → R D} : brw (.mut x i m es) f ρ w = f ρ w := rfl
theorem tw_mut {x : Str} {i : Nat} {m : Str} {es : PXs} {fa fb : En → DW → R D} {k : D → D → En → DW → R D} : two (.mut x i m es) fa fb k ρ w = (fa ρ w).bind fun x ρ w => (fb ρ w).bind fun y ρ w => k x y ρ w := rfl
theorem et_mut {x : Str} {i : Nat} {m : Str} {es : PXs} : evT Γ (.mut x i m es) ρ w = (ev Γ (.mut x i m es) ρ w).bind fun d ρ w => R.of (Γ.tru d) ρ w := by rw [q_evT rfl]; rfl
theorem bw_isi {a : PX} {t : Str} {f : En → DW → R D} : brw (.isi a t) f ρ w = f ρ w := rfl
theorem tw_isi {a : PX} {t : Str} {fa fb : En → DW → R D} {k : D → D → En → DW → R D} : two (.isi a t) fa fb k ρ w = (fa ρ w).bind fun x ρ w => (fb ρ w).bind fun y ρ w => k x y ρ w := rfl
theorem et_isi {a : PX} {t : Str} : evT Γ (.isi a t) ρ w = (ev Γ (.isi a t) ρ w).bind fun d ρ w => R.of (Γ.tru d) ρ w := by rw [q_evT rfl]; rfl
theorem bw_lc {e : PX} {tg : Tg} {it : PIt} {ifs : PXs} {own : List (Str × Nat)} {f : En → DW → R D} : brw (.lc e tg it ifs own) f ρ w = f ρ w := rfl
theorem tw_lc {e : PX} {tg : Tg} {it : PIt} {ifs : PXs} {own : List (Str × Nat)} {fa fb : En → DW → R D} {k : D → D → En → DW → R D} : two (.lc e tg it ifs own) fa fb k ρ w = (fa ρ w).bind fun x ρ w => (fb ρ w).bind fun y ρ w => k x y ρ w := rfl
theorem et_lc {e : PX} {tg : Tg} {it : PIt} {ifs : PXs} {own : List (Str × Nat)} : evT Γ (.lc e tg it ifs own) ρ w = (ev Γ (.lc e tg it ifs own) ρ w).bind fun d ρ w => R.of (Γ.tru d) ρ w := by rw [q_evT rfl]; rfl
theorem bw_own2 {g : Ow2} {a b : PX} {f : En → DW → R D} : brw (.own2 g a b) f ρ w = f ρ w := rfl
theorem tw_own2 {g : Ow2} {a b : PX} {fa fb : En → DW → R D} {kk : D → D → En → DW → R D} : two (.own2 g a b) fa fb kk ρ w = (fa ρ w).bind fun x ρ w => (fb ρ w).bind fun y ρ w => kk x y ρ w := rfl
theorem bw_dcT {k v : PX} {tg : Tg} {it : PIt} {own : List (Str × Nat)} {f : En → DW → R D} : brw (.dcT k v tg it own) f ρ w = f ρ w := rfl
theorem tw_dcT {k v : PX} {tg : Tg} {it : PIt} {own : List (Str × Nat)} {fa fb : En → DW → R D} {kk : D → D → En → DW → R D} : two (.dcT k v tg it own) fa fb kk ρ w = (fa ρ w).bind fun x ρ w => (fb ρ w).bind fun y ρ w => kk x y ρ w := rfl
theorem bw_sset {a : PX} {f : En → DW → R D} : brw (.sset a) f ρ w = f ρ w := rfl
theorem tw_sset {a : PX} {fa fb : En → DW → R D} {k : D → D → En → DW → R D} : two (.sset a) fa fb k ρ w = (fa ρ w).bind fun x ρ w => (fb ρ w).bind fun y ρ w => k x y ρ w := rfl
theorem et_sset {a : PX} : evT Γ (.sset a) ρ w = (ev Γ (.sset a) ρ w).bind fun d ρ w => R.of (Γ.tru d) ρ w := by rw [q_evT rfl]; rfl
theorem et_var {x : Str} {i : Nat} : evT Γ (.var x i) ρ w = (R.of (rd ρ i) ρ w).bind fun d ρ w => R.of (Γ.tru d) ρ w := by rw [q_evT rfl]; rfl
theorem t_bl {b : Bool} : truD (.bl b) = some b := rfl
theorem t_non : truD .non = some false := rfl
theorem t_lst {ds : List D} : truD (.lst ds) = some (!ds.isEmpty) := rfl
theorem t_tup {ds : List D} : truD (.tup ds) = some (!ds.isEmpty) := rfl
theorem n_str {s : Str} : lenD (.str s) = some (.int s.length) := rfl
theorem n_lst {ds : List D} : lenD (.lst ds) = some (.int ds.length) := rfl
theorem n_tup {ds : List D} : lenD (.tup ds) = some (.int ds.length) := rfl
theorem tu_lst {ds : List D} : tupD (.lst ds) = some (.tup ds) := rfl
theorem li_tup {ds : List D} : listD (.tup ds) = some (.lst ds) := rfl
theorem li_lst {ds : List D} : listD (.lst ds) = some (.lst ds) := rfl
theorem i_int {i : Int} : intD (.int i) = some (some i) := rfl
theorem i1_int {i : Int} : intD1 (.int i) = some (.int i) := rfl
theorem it_lst {ds : List D} : itD (.lst ds) = some ds := rfl
theorem it_tup {ds : List D} : itD (.tup ds) = some ds := rfl
theorem rv_tup {ds : List D} : revD (.tup ds) = some (.tup ds.reverse) := rfl
theorem at_tup {xs : List (Str × Nat)} {ds : List D} : asgTD false xs (.tup ds) ρ = asgL xs ds ρ := rfl
theorem o_some : RS.ofE (some ρ) w = .nx ρ w := rfl
theorem g_tupL {ds : List D} {i : Int} : getD (.tup ds) (.int i) = atI ds i := rfl
theorem g_lstL {ds : List D} {i : Int} : getD (.lst ds) (.int i) = atI ds i := rfl
theorem sl_tup {ds : List D} {l h : Option Int} : slcD (.tup ds) l h = some (.tup (cutD ds l h)) := rfl
theorem b_addI {i j : Int} : binX .Add (.int i) (.int j) = some (.int (i + j)) := rfl
theorem b_subI {i j : Int} : binX .Sub (.int i) (.int j) = some (.int (i - j)) := rfl
theorem b_addB {p : Bool} {j : Int} : binX .Add (.bl p) (.int j) = some (.int (b2D p + j)) := rfl
theorem b_subB {p : Bool} {j : Int} : binX .Sub (.bl p) (.int j) = some (.int (b2D p - j)) := rfl
theorem b_subIB {p : Bool} {i : Int} : binX .Sub (.int i) (.bl p) = some (.int (i - b2D p)) := rfl
/-! the bundle, name by name -/
section
variable {fn : Str → Option Fn} {ki : Str → List D → List Str → List D → Option (List D)}
theorem g_fn {f : Str} : (stdG fn ki).fn f = fn f := rfl
theorem g_ki : (stdG fn ki).ki = ki := rfl
theorem g_tru {d : D} : (stdG fn ki).tru d = truD d := rfl
theorem g_cmp {o : CmpOp} {a b : D} {w : DW} : (stdG fn ki).cmp o a b w = RW.of (cmpX o a b) w := rfl
theorem g_bin {o : Operator} {a b : D} {w : DW} : (stdG fn ki).bin o a b w = RW.of (binX o a b) w := rfl
theorem gg_get {a b : D} {w : DW} : (stdG fn ki).get a b w = RW.of (getD a b) w := rfl
theorem g_slc {a : D} {l h : Option Int} : (stdG fn ki).slc a l h = slcD a l h := rfl
theorem g_rev {a : D} : (stdG fn ki).rev a = revD a := rfl
theorem g_neg {a : D} : (stdG fn ki).neg a = negD a := rfl
theorem g_it {a : D} : (stdG fn ki).it a = itD a := rfl
theorem g_isi_int : (stdG fn ki).isi "int" = some (isiF kbInt fun _ => none) := by kernel_rfl
theorem g_isi_bool : (stdG fn ki).isi "bool" = some (isiF (kbOne "bool") fun _ => none) := by kernel_rfl
theorem g_isi_str : (stdG fn ki).isi "str" = some (isiF (kbOne "str") fun _ => none) := by kernel_rfl
theorem g_isi_tuple : (stdG fn ki).isi "tuple" = some (isiF (kbOne "tuple") fun _ => none) := by kernel_rfl
theorem g_isi_list : (stdG fn ki).isi "list" = some (isiF (kbOne "list") fun _ => none) := by kernel_rfl
theorem g_bF_len : (stdG fn ki).bF "len" = none := by kernel_rfl
theorem g_bF_repr : (stdG fn ki).bF "repr" = none := by kernel_rfl
theorem g_bF_max : (stdG fn ki).bF "max" = none := by kernel_rfl
theorem g_bF_str : (stdG fn ki).bF "str" = none := by kernel_rfl
theorem g_bF_int : (stdG fn ki).bF "int" = none := by kernel_rfl
theorem g_bF_tuple : (stdG fn ki).bF "tuple" = none := by kernel_rfl
theorem g_bF_all : (stdG fn ki).bF "all" = none := by kernel_rfl
theorem g_bF_any : (stdG fn ki).bF "any" = none := by kernel_rfl
theorem g_bF_list : (stdG fn ki).bF "list" = some listD := by kernel_rfl
theorem g_bF_sorted : (stdG fn ki).bF "sorted" = some sortedD := by kernel_rfl
theorem g_b1_len : (stdG fn ki).b1 "len" = some fun d w => RW.of (lenD d) w := by kernel_rfl
theorem g_b1_repr : (stdG fn ki).b1 "repr" = some fun d w => RW.of (reprX d) w := by kernel_rfl
theorem g_b1_max : (stdG fn ki).b1 "max" = some fun d w => RW.of (maxI d) w := by kernel_rfl
theorem g_b1_str : (stdG fn ki).b1 "str" = some fun d w => RW.of (strX d) w := by kernel_rfl
theorem g_b1_int : (stdG fn ki).b1 "int" = some fun d w => RW.of (intD1 d) w := by kernel_rfl
theorem g_b1_tuple : (stdG fn ki).b1 "tuple" = some fun d w => RW.of (tupD d) w := by kernel_rfl
theorem g_b1_all : (stdG fn ki).b1 "all" = some fun d w => RW.of (allD d) w := by kernel_rfl
theorem g_b1_any : (stdG fn ki).b1 "any" = some fun d w => RW.of (anyD d) w := by kernel_rfl
theorem g_mu_append : (stdG fn ki).mu "append" = some (4, appendF) := by kernel_rfl
end
/-! what data is -/
def okT : D → Bool | .ins .. => false | .deck => false | _ => true
def intB : D → Bool | .int _ => true | .bl _ => true | _ => false
def blB : D → Bool | .bl _ => true | _ => false
def tupB : D → Bool | .tup _ => true | _ => false
theorem k_int {d : D} (h : okT d = true) : isiF kbInt (fun _ => none) d = some (intB d) := by
  cases d <;> first | (exact absurd h Bool.false_ne_true) | kernel_rfl
theorem k_bool {d : D} (h : okT d = true) : isiF (kbOne "bool") (fun _ => none) d = some (blB d) := by
  cases d <;> first | (exact absurd h Bool.false_ne_true) | kernel_rfl
theorem k_tuple {d : D} (h : okT d = true) : isiF (kbOne "tuple") (fun _ => none) d = some (tupB d) := by
  cases d <;> first | (exact absurd h Bool.false_ne_true) | kernel_rfl
theorem k_tbl {b : Bool} : truD (.bl b) = some b := rfl
/-! comparisons of ints -/
theorem sh_int (i : Int) : SeqAt.shaped (.int i) = true := by kernel_rfl
theorem p2_int (i j : Int) : py2 (.int i) (.int j) = some (.int i, .int j) := by
  unfold py2
  simp only [D.py, sh_int, Bool.and_self, if_true]
theorem c_eqI (i j : Int) : cmpX .Eq (.int i) (.int j) = some (.bl (decide (i = j))) := by
  show (eqD (.int i) (.int j)).map D.bl = _
  unfold eqD
  rw [p2_int]
  have : PyData.eqv (.int i) (.int j) = decide (i = j) := by
    show (i == j) = _
    by_cases h : i = j
    · simp [h]
    · simp [h]
  simp only [this, Option.map_some]
theorem c_neI (i j : Int) : cmpX .NotEq (.int i) (.int j) = some (.bl (!decide (i = j))) := by
  show (eqD (.int i) (.int j)).map (fun b => D.bl (!b)) = _
  unfold eqD
  rw [p2_int]
  have : PyData.eqv (.int i) (.int j) = decide (i = j) := by
    show (i == j) = _
    by_cases h : i = j
    · simp [h]
    · simp [h]
  simp only [this, Option.map_some]
theorem c_ltI (i j : Int) : cmpX .Lt (.int i) (.int j) = some (.bl (decide (i < j))) := by
  show (ltD (.int i) (.int j)).map D.bl = _
  unfold ltD
  rw [p2_int]
  simp only [PySem.W.alike, isNo, Bool.not_false, Bool.and_self, if_true, PySem.W.dataLt_int, Option.map_some]
theorem c_gtI (i j : Int) : cmpX .Gt (.int i) (.int j) = some (.bl (decide (j < i))) := by
  show (gtD (.int i) (.int j)).map D.bl = _
  unfold gtD
  rw [p2_int]
  simp only [PySem.W.alike, isNo, Bool.not_false, Bool.and_self, if_true, PySem.W.dataLt_int, Option.map_some]
theorem c_geI (i j : Int) : cmpX .GtE (.int i) (.int j) = some (.bl (!decide (i < j))) := by
  show (ltD (.int i) (.int j)).map (fun b => D.bl (!b)) = _
  unfold ltD
  rw [p2_int]
  simp only [PySem.W.alike, isNo, Bool.not_false, Bool.and_self, if_true, PySem.W.dataLt_int, Option.map_some]
theorem c_leI (i j : Int) : cmpX .LtE (.int i) (.int j) = some (.bl (!decide (j < i))) := by
  show (gtD (.int i) (.int j)).map (fun b => D.bl (!b)) = _
  unfold gtD
  rw [p2_int]
  simp only [PySem.W.alike, isNo, Bool.not_false, Bool.and_self, if_true, PySem.W.dataLt_int, Option.map_some]
theorem c_eqL (a : List D) : cmpX .Eq (.lst a) (.lst []) = some (.bl a.isEmpty) := rfl
theorem c_neL (a : List D) : cmpX .NotEq (.lst a) (.lst []) = some (.bl (!a.isEmpty)) := rfl
theorem c_eqT (a : List D) : cmpX .Eq (.tup a) (.tup []) = some (.bl a.isEmpty) := rfl
theorem c_neT (a : List D) : cmpX .NotEq (.tup a) (.tup []) = some (.bl (!a.isEmpty)) := rfl
theorem c_isB (d : D) (b : Bool) : cmpX .Is d (.bl b) = some (.bl (isbD b d)) := rfl
theorem c_notB (d : D) (b : Bool) : cmpX .IsNot d (.bl b) = some (.bl (!isbD b d)) := rfl
theorem isb_neither (d : D) : (!isbD true d && !isbD false d) = match d with | .bl _ => false | _ => true := by
  cases d <;> first | rfl | (rename_i b; cases b <;> rfl)
theorem c_eqS (a b : Str) : cmpX .Eq (.str a) (.str b) = some (.bl (decide (a = b))) := rfl
end
end DL
namespace DL
open PySem PySem.Spec PyProof.Rows L2
/-! ### comprehensions -/
theorem lc_pure {tg : Tg} {own : List Nat} {t : En → DW → R Bool} {f : En → DW → R D} {ρ : En} {w : DW} (p : D → Bool) (g : D → D) (r1 : D → En) (hfree : free ρ own = true) : ∀ {ds acc : List D}, (∀ d ∈ ds, asgD tg d (wipeE ρ own) = some (r1 d)) → (∀ d ∈ ds, t (r1 d) w = .ok (p d) (r1 d) w) →
    (∀ d ∈ ds, p d = true → f (r1 d) w = .ok (g d) (r1 d) w) → (∀ d ∈ ds, backE ρ (r1 d) own = ρ) → acc.length + ds.length ≤ 100000 → lcD tg own t f ds acc ρ w = .ok (acc ++ (ds.filter p).map g) ρ w
  | [], acc, _, _, _, _, _ => by simp [lcD]
  | d :: ds, acc, ha, ht, hf, hb, hl => by
    have m : d ∈ d :: ds := List.mem_cons_self
    rw [List.length_cons] at hl
    rw [lcD, if_pos hfree, ha d m]
    simp only [ht d m]
    cases e : p d with
    | true =>
      simp only [hf d m e, hb d m]
      rw [if_pos (by omega), lc_pure p g r1 hfree (fun x h => ha x (.tail _ h)) (fun x h => ht x (.tail _ h)) (fun x h => hf x (.tail _ h)) (fun x h => hb x (.tail _ h)) (by rw [List.length_append]; simp; omega)]
      simp [e]
    | false =>
      simp only [hb d m]
      rw [lc_pure p g r1 hfree (fun x h => ha x (.tail _ h)) (fun x h => ht x (.tail _ h)) (fun x h => hf x (.tail _ h)) (fun x h => hb x (.tail _ h)) (by omega)]
      simp [e]
/-- all of them, what is drawn on the way -/
theorem lc_rel {tg : Tg} {own : List Nat} {t : En → DW → R Bool} {f : En → DW → R D} {ρ : En} (P : D → Prop) (S : Nat → DW → Prop) (r1 : D → En) (hfree : free ρ own = true) : ∀ {ds acc : List D} {n : Nat} {w : DW}, (∀ d ∈ ds, asgD tg d (wipeE ρ own) = some (r1 d)) →
    (∀ d ∈ ds, ∀ n w, S n w → t (r1 d) w = .ok true (r1 d) w ∧ ∃ x w', f (r1 d) w = .ok x (r1 d) w' ∧ P x ∧ S (n + 1) w') → (∀ d ∈ ds, backE ρ (r1 d) own = ρ) → acc.length + ds.length ≤ 100000 → S n w →
    ∃ xs w', lcD tg own t f ds acc ρ w = .ok (acc ++ xs) ρ w' ∧ xs.length = ds.length ∧ (∀ x ∈ xs, P x) ∧ S (n + ds.length) w'
  | [], acc, n, w, _, _, _, _, s => ⟨[], w, by simp [lcD], rfl, by simp, s⟩
  | d :: ds, acc, n, w, ha, ht, hb, hl, s => by
    have m : d ∈ d :: ds := List.mem_cons_self
    rw [List.length_cons] at hl
    obtain ⟨h1, x, w1, h2, h3, h4⟩ := ht d m n w s
    obtain ⟨xs, w', q1, q2, q3, q4⟩ := lc_rel P S r1 hfree (ds := ds) (acc := acc ++ [x]) (n := n + 1) (w := w1) (fun x h => ha x (.tail _ h)) (fun x h => ht x (.tail _ h)) (fun x h => hb x (.tail _ h)) (by rw [List.length_append]; simp; omega) h4
    refine ⟨x :: xs, w', ?_, by rw [List.length_cons, q2, List.length_cons], fun y hy => ?_, by rw [List.length_cons]; have e : n + 1 + ds.length = n + (ds.length + 1) := by omega
                                                                                                rw [← e]; exact q4⟩
    · rw [lcD, if_pos hfree, ha d m]
      simp only [h1, h2, hb d m]
      rw [if_pos (by omega), q1]
      simp
    · rcases List.mem_cons.mp hy with z | z
      · rw [z]; exact h3
      · exact q3 y z
def fr (r : RS) (k : En → DW → RS) : RS := match r with
  | .nx ρ w => k ρ w
  | .ct ρ w => k ρ w
  | .bk ρ w => .nx ρ w
  | r => r
def fo (o : Option En) (f : En → DW → RS) (k : En → DW → RS) (w : DW) : RS := match o with
  | none => .stuck
  | some ρ => fr (f ρ w) k
theorem for_nil {tg : Tg} {f : En → DW → RS} {ρ : En} {w : DW} : forD tg f [] ρ w = .nx ρ w := rfl
theorem for_cons {tg : Tg} {f : En → DW → RS} {d : D} {ds : List D} {ρ : En} {w : DW} : forD tg f (d :: ds) ρ w = fo (asgD tg d ρ) f (forD tg f ds) w := by
  rw [forD]
  unfold fo
  cases asgD tg d ρ with
  | none => rfl
  | some ρ1 =>
    simp only
    unfold fr
    cases f ρ1 w <;> rfl
theorem fo_some {f k : En → DW → RS} {ρ : En} {w : DW} : fo (some ρ) f k w = fr (f ρ w) k := rfl
theorem fr_nx {k : En → DW → RS} {ρ : En} {w : DW} : fr (.nx ρ w) k = k ρ w := rfl
theorem fr_rt {k : En → DW → RS} {d : D} {w : DW} : fr (.rt d w) k = .rt d w := rfl
theorem as_nm {x : Str} {i : Nat} {d : D} {ρ : En} : asgD (.nm x i) d ρ = some (ρ.set i (.dat d)) := rfl
theorem as_tup {xs : List (Str × Nat)} {ds : List D} {ρ : En} : asgD (.tup xs) (.tup ds) ρ = asgL xs ds ρ := rfl
theorem filt_not {α : Type} (p : α → Bool) : ∀ l : List α, (l.filter fun d => !p d).isEmpty = l.all p
  | [] => rfl
  | a :: l => by
    rw [List.filter_cons, List.all_cons, ← filt_not p l]
    cases p a <;> simp
theorem bls_map (p : D → Bool) : ∀ ds : List D, blsD (ds.map fun d => D.bl (p d)) = some (ds.map p)
  | [] => rfl
  | d :: ds => by
    rw [List.map_cons, blsD, bls_map p ds]
    rfl
theorem all_map (p : D → Bool) (ds : List D) : allD (.lst (ds.map fun d => D.bl (p d))) = some (.bl (ds.all p)) := by
  show (blsD _).map _ = _
  rw [bls_map]
  simp [List.all_map, Function.comp_def]
end DL
namespace DL
open PySem PySem.Spec PyProof.Rows L2
theorem q_run {Γ : Gm} {body : PYs} {np n : Nat} {ds : List D} {d : D} {w w' : DW} (hl : ds.length = np) (e : exSs Γ body (ds.map .dat ++ List.replicate (n - ds.length) .emp) w = .rt d w') : runB Γ body np n ds w = .ok d w' := by
  unfold runB
  rw [if_pos hl, e]
end DL
set_option maxRecDepth 100000
set_option maxHeartbeats 1000000
set_option linter.all false
namespace DL
open PySem PySem.Spec PyProof.Rows L2
/-! ### small plain data: no instances, ints and texts of bounded size -/
mutual
def lv : D → Bool
  | .non => true
  | .bl _ => true
  | .int i => decide (i.natAbs.log2 < 200)
  | .str s => decide (s.length ≤ 250) && s.cps.toList.all fun c => decide (c < 16 ^ 8)
  | .lst ds => lvs ds
  | .tup ds => lvs ds
  | .dK ks vs => ks.isEmpty && vs.isEmpty
  | _ => false
def lvs : List D → Bool
  | [] => true
  | d :: ds => lv d && lvs ds
end
mutual
/-- how many parts -/
def sz : D → Nat
  | .lst ds => szs ds + 1
  | .tup ds => szs ds + 1
  | _ => 1
def szs : List D → Nat
  | [] => 0
  | d :: ds => sz d + szs ds
end
mutual
def dh : D → Nat
  | .lst ds => dhs ds + 1
  | .tup ds => dhs ds + 1
  | _ => 1
def dhs : List D → Nat
  | [] => 0
  | d :: ds => max (dh d) (dhs ds)
end
theorem lvs_iff : ∀ {ds : List D}, lvs ds = true ↔ ∀ d ∈ ds, lv d = true
  | [] => by simp [lvs]
  | d :: ds => by simp [lvs, lvs_iff (ds := ds)]
theorem sz_pos : ∀ d : D, 1 ≤ sz d := fun d => by cases d <;> simp [sz]
theorem szs_len : ∀ ds : List D, ds.length ≤ szs ds
  | [] => by simp
  | d :: ds => by
    have := szs_len ds
    have := sz_pos d
    simp only [List.length_cons, szs]
    omega
theorem szs_append : ∀ as bs : List D, szs (as ++ bs) = szs as + szs bs
  | [], bs => by simp [szs]
  | a :: as, bs => by simp [szs, szs_append as bs]; omega
theorem dhs_append : ∀ as bs : List D, dhs (as ++ bs) = max (dhs as) (dhs bs)
  | [], bs => by simp [dhs]
  | a :: as, bs => by simp only [List.cons_append, dhs, dhs_append as bs]; omega
theorem lvs_append {as bs : List D} : lvs (as ++ bs) = (lvs as && lvs bs) := by
  induction as with
  | nil => simp [lvs]
  | cons a as ih => simp [lvs, ih, Bool.and_assoc]
theorem szs_split (ds : List D) (n : Nat) : szs (ds.take n) + szs (ds.drop n) = szs ds := by
  rw [← szs_append, List.take_append_drop]
theorem dhs_take (ds : List D) (n : Nat) : dhs (ds.take n) ≤ dhs ds := by
  have := dhs_append (ds.take n) (ds.drop n)
  rw [List.take_append_drop] at this
  omega
theorem dhs_drop (ds : List D) (n : Nat) : dhs (ds.drop n) ≤ dhs ds := by
  have := dhs_append (ds.take n) (ds.drop n)
  rw [List.take_append_drop] at this
  omega
theorem lvs_take {ds : List D} (h : lvs ds = true) (n : Nat) : lvs (ds.take n) = true := lvs_iff.mpr fun d hd => lvs_iff.mp h d (List.mem_of_mem_take hd)
theorem lvs_drop {ds : List D} (h : lvs ds = true) (n : Nat) : lvs (ds.drop n) = true := lvs_iff.mpr fun d hd => lvs_iff.mp h d (List.mem_of_mem_drop hd)
theorem lvs_rev {ds : List D} (h : lvs ds = true) : lvs ds.reverse = true := lvs_iff.mpr fun d hd => lvs_iff.mp h d (List.mem_reverse.mp hd)
theorem szs_rev : ∀ ds : List D, szs ds.reverse = szs ds
  | [] => rfl
  | d :: ds => by
    rw [List.reverse_cons, szs_append, szs_rev ds]
    simp [szs]
    omega
theorem dhs_rev : ∀ ds : List D, dhs ds.reverse = dhs ds
  | [] => rfl
  | d :: ds => by
    rw [List.reverse_cons, dhs_append, dhs_rev ds]
    simp [dhs]
    omega
theorem sz_get : ∀ {ds : List D} {i : Nat} {d : D}, ds[i]? = some d → szs (ds.take i) + sz d + szs (ds.drop (i + 1)) = szs ds ∧ dh d ≤ dhs ds ∧ d ∈ ds
  | [], i, d, h => by simp at h
  | e :: ds, 0, d, h => by
    have : e = d := by simpa using h
    subst this
    refine ⟨?_, ?_, List.mem_cons_self⟩
    · simp [szs]
    · simp only [dhs]; omega
  | e :: ds, i + 1, d, h => by
    obtain ⟨h1, h2, h3⟩ := sz_get (ds := ds) (i := i) (by simpa using h)
    refine ⟨?_, ?_, .tail _ h3⟩
    · simp only [List.take_succ_cons, List.drop_succ_cons, szs]; omega
    · simp only [dhs]; omega
theorem lv_okT {d : D} (h : lv d = true) : okT d = true := by
  cases d <;> first | rfl | (exact absurd h Bool.false_ne_true)
/-! ### its repr -/
theorem piled_from : ∀ (ts : List Str) (k : Nat) (acc : Str), (textFrom k acc ts).length ≤ acc.length + piled ts
  | [], k, acc => Nat.le_add_right _ _
  | t :: ts, k, acc => by
    have ih := piled_from ts (k + 1) (acc ++ (if k > 0 then ", " else "" : String) ++ t)
    rw [strLen_append, strLen_append] at ih
    have e : (Str.ofString (if k > 0 then ", " else "" : String)).length ≤ 2 := by
      split <;> decide
    rw [piled_cons]
    show (textFrom (k + 1) _ ts).length ≤ _
    omega
theorem piled_join : ∀ ts : List Str, (Str.join ", " ts).length ≤ piled ts
  | [] => Nat.zero_le _
  | t :: ts => by
    have := join_length_add (t :: ts) (by simp)
    omega
mutual
theorem lv_shown : ∀ d : D, lv d = true → ∃ p, d.px = some p ∧ p.showable = true ∧ p.depth ≤ dh d ∧ p.shown.length + 2 ≤ 3000 * sz d
  | .non, h => ⟨.none, rfl, rfl, by decide, by decide⟩
  | .bl b, h => ⟨.bool b, rfl, rfl, by simp [PyData.depth, dh], by cases b <;> decide⟩
  | .int i, h => by
    have h : i.natAbs.log2 < 200 := of_decide_eq_true (by rw [lv] at h; exact h)
    refine ⟨.int i, rfl, ?_, by simp [PyData.depth, dh], ?_⟩
    · simp only [PyData.showable]
      exact decide_eq_true (by omega)
    · simp only [PyData.shown, sz]
      rw [PySem.ofString_length]
      have := int_text_length_le (k := 200) (by decide) h
      omega
  | .str s, h => by
    rw [lv] at h
    simp only [Bool.and_eq_true, decide_eq_true_eq, List.all_eq_true] at h
    refine ⟨.str s, rfl, by simp [PyData.showable], by simp [PyData.depth, dh], ?_⟩
    simp only [PyData.shown, sz]
    have := StrLaws.reprText_len s h.2
    omega
  | .lst ds, h => by
    obtain ⟨ps, h1, h2, h3, h4⟩ := lvs_shown ds (by rw [lv] at h; exact h)
    refine ⟨.list ps, by rw [D.px, h1], by simpa [PyData.showable] using h2, by simp only [PyData.depth, dh]; omega, ?_⟩
    simp only [PyData.shown, sz]
    unfold listText
    rw [strLen_append]
    have := piled_from (PyData.shownAll ps) 0 "["
    have e1 : (Str.ofString "[").length = 1 := rfl
    have e2 : (Str.ofString "]").length = 1 := rfl
    omega
  | .tup ds, h => by
    obtain ⟨ps, h1, h2, h3, h4⟩ := lvs_shown ds (by rw [lv] at h; exact h)
    refine ⟨.tuple ps, by rw [D.px, h1], by simpa [PyData.showable] using h2, by simp only [PyData.depth, dh]; omega, ?_⟩
    simp only [PyData.shown, sz]
    unfold tupleText
    rw [strLen_append, strLen_append]
    have := piled_join (PyData.shownAll ps)
    have e1 : (Str.ofString "(").length = 1 := rfl
    have e2 : (Str.ofString (if (PyData.shownAll ps).length == 1 then ",)" else ")" : String)).length ≤ 2 := by split <;> decide
    omega
  | .dK ks vs, h => by
    rw [lv] at h
    simp only [Bool.and_eq_true, List.isEmpty_iff] at h
    obtain ⟨h1, h2⟩ := h
    subst h1 h2
    exact ⟨.dict [], rfl, rfl, by simp [PyData.depth, PyData.depthKv, dh], by decide⟩
  | .dT _ _, h => by rw [lv] at h <;> first | cases h | (intros; contradiction)
  | .ins _ _ _, h => by rw [lv] at h <;> first | cases h | (intros; contradiction)
  | .deck, h => by rw [lv] at h <;> first | cases h | (intros; contradiction)
theorem lvs_shown : ∀ ds : List D, lvs ds = true → ∃ ps, D.pxs ds = some ps ∧ PyData.showableAll ps = true ∧ PyData.depthAll ps ≤ dhs ds ∧ piled (PyData.shownAll ps) ≤ 3000 * szs ds
  | [], _ => ⟨[], rfl, rfl, by simp [PyData.depthAll], by simp [PyData.shownAll, piled]⟩
  | d :: ds, h => by
    rw [lvs, Bool.and_eq_true] at h
    obtain ⟨p, a1, a2, a3, a4⟩ := lv_shown d h.1
    obtain ⟨ps, b1, b2, b3, b4⟩ := lvs_shown ds h.2
    refine ⟨p :: ps, by rw [D.pxs, a1, b1], ?_, ?_, ?_⟩
    · simp [PyData.showableAll, a2, b2]
    · simp only [PyData.depthAll, dhs]; omega
    · simp only [PyData.shownAll, szs]
      rw [piled_cons]
      omega
end
theorem repr_lv {d : D} (h : lv d = true) (hd : dh d ≤ 60) (hs : sz d ≤ 5000) : ∃ s, reprX d = some (.str s) := by
  obtain ⟨p, h1, h2, h3, h4⟩ := lv_shown d h
  refine ⟨p.shown, ?_⟩
  unfold reprX
  rw [h1]
  have e1 : decide (p.depth ≤ 64) = true := decide_eq_true (by omega)
  have e2 : decide (p.shown.length ≤ lim) = true := decide_eq_true (by have : lim = 16777216 := rfl; omega)
  simp only [h2, e1, e2, Bool.and_self, if_true]
end DL
set_option maxRecDepth 100000
set_option maxHeartbeats 2000000
set_option linter.all false
namespace DL.K17
open PySem PySem.Spec PyProof.Rows L2 DL
def ki0 : Str → List D → List Str → List D → Option (List D) := fun _ _ _ _ => none
def fl (l : List (Str × Fn)) (f : Str) : Option Fn := l.lookup f
theorem fl_hit {x : Str} {F : Fn} {l : List (Str × Fn)} : fl ((x, F) :: l) x = some F := by
  unfold fl
  rw [List.lookup_cons_self]
theorem fl_miss {x y : Str} {F : Fn} {l : List (Str × Fn)} (h : (y == x) = false) : fl ((x, F) :: l) y = fl l y := by
  unfold fl
  rw [List.lookup_cons, h]
theorem filt_true {α : Type} : ∀ l : List α, l.filter (fun _ => true) = l
  | [] => rfl
  | a :: l => by simp
/-! ### the program's look -/
def isI : D → Bool | .int _ => true | _ => false
def cellB (m : Int) : D → Bool | .int i => decide (0 ≤ i) && decide (i < m) | _ => false
def rowB (m a : Int) : D → Bool | .tup ns => decide ((ns.length : Int) = a) && ns.all (cellB m) | _ => false
def tabB (m a b : Int) : D → Bool | .tup rs => decide ((rs.length : Int) = b) && rs.all (rowB m a) | _ => false
def colB (n : Nat) : D → Bool
  | .tup [.int m, .int a, .int b, .tup ts] => decide (2 ≤ m) && decide (1 ≤ a) && decide (1 ≤ b) && decide ((ts.length : Int) = n) && ts.all (tabB m a b)
  | _ => false
def F_is_int : Fn := runB (stdG (fl []) ki0) b_is_int 1 1
theorem is_int_eq (d : D) (w : DW) (h : okT d = true) : F_is_int [d] w = .ok (.bl (isI d)) w := by
  have e : isI d = (intB d && (!isbD true d && !isbD false d)) := by cases d <;> first | rfl | (rename_i b; cases b <;> rfl)
  refine q_run rfl ?_
  show exSs _ b_is_int [.dat d] w = _
  unfold b_is_int
  simp only [exSs_cons, exSs_nil, exS_ret, exS_retN, exS_asg, exS_asgO, exS_asgT, exS_par2, exS_ex, exS_ifs, exS_for, for_nil, for_cons, fo_some, fr_nx, fr_rt, as_nm, as_tup, ev_var, ev_con, ev_bin, ev_cmp, ev_chain, ev_nt, ev_and, ev_or, ev_ife, ev_tup, ev_lst, ev_dnew, ev_sub, ev_slc, ev_rev, ev_call, ev_callK, ev_b1, ev_mut, ev_isi, evs_nil, evs_cons, evO_nil, evO_one, evT_and, evT_or, evT_nt, evI_val, evI_range1, evTs_nil, evTs_one, q_bind, q_bindS, q_of, q_at, q_rw, q_seq_nx, q_seq_rt, q_var, vd_dat, vd_own, q_rd, rdo_dat, rdo_own, q_brw_var, thV_some, twV_some, q_two_var, q_and, q_or, q_chain, q_callD, q_callKD, kiR_some, q_b1F, q_b1, q_isi, q_mut, q_ownK, oko_own, kindD, q_mutD, mdo_own, mdr_some, g_fn, g_ki, g_tru, g_cmp, g_bin, gg_get, g_slc, g_rev, g_it, g_isi_int, g_isi_bool, g_isi_str, g_isi_tuple, g_isi_list, g_bF_len, g_bF_repr, g_bF_max, g_bF_str, g_bF_int, g_bF_tuple, g_bF_all, g_bF_any, g_bF_list, g_b1_len, g_b1_repr, g_b1_max, g_b1_str, g_b1_int, g_b1_tuple, g_b1_all, g_mu_append, k_tbl, c_eqI, c_neI, c_ltI, c_gtI, c_geI, c_leI, c_eqL, c_neL, c_eqT, c_neT, c_isB, c_notB, c_eqS, ownD, asgL, t_bl, t_non, t_lst, t_tup, n_str, n_lst, n_tup, tu_lst, li_tup, li_lst, i_int, i1_int, it_lst, it_tup, rv_tup, at_tup, o_some, g_tupL, g_lstL, sl_tup, b_addI, b_subI, b_addB, b_subB, b_subIB, bw_con, tw_con, et_con, bw_glob, tw_glob, et_glob, bw_bin, tw_bin, et_bin, bw_neg, tw_neg, et_neg, bw_nt, tw_nt, bw_and, tw_and, bw_or, tw_or, bw_cmp, tw_cmp, et_cmp, bw_chain, tw_chain, et_chain, bw_ife, tw_ife, et_ife, bw_tup, tw_tup, et_tup, bw_lst, tw_lst, et_lst, bw_dnew, tw_dnew, et_dnew, bw_sub, tw_sub, et_sub, bw_slc, tw_slc, et_slc, bw_rev, tw_rev, et_rev, bw_call, tw_call, et_call, bw_callK, tw_callK, et_callK, bw_b1, tw_b1, et_b1, bw_mth, tw_mth, et_mth, bw_mut, tw_mut, et_mut, bw_isi, tw_isi, et_isi, bw_lc, tw_lc, et_lc, bw_sset, tw_sset, et_sset, et_var, List.getElem?_cons_zero, List.getElem?_cons_succ, List.set_cons_zero, List.set_cons_succ, List.length_cons, List.length_nil, Option.map_some, if_true, if_false, Bool.false_eq_true, Nat.zero_add, Nat.reduceAdd, Nat.reduceLT, Nat.reduceLeDiff, List.zip_cons_cons, List.zip_nil_left, List.zip_nil_right, List.foldl_cons, List.foldl_nil, Bool.not_true, Bool.not_false, decide_true, decide_false, k_int h]
  rw [e]
  cases intB d <;> simp only [exSs_cons, exSs_nil, exS_ret, exS_retN, exS_asg, exS_asgO, exS_asgT, exS_par2, exS_ex, exS_ifs, exS_for, for_nil, for_cons, fo_some, fr_nx, fr_rt, as_nm, as_tup, ev_var, ev_con, ev_bin, ev_cmp, ev_chain, ev_nt, ev_and, ev_or, ev_ife, ev_tup, ev_lst, ev_dnew, ev_sub, ev_slc, ev_rev, ev_call, ev_callK, ev_b1, ev_mut, ev_isi, evs_nil, evs_cons, evO_nil, evO_one, evT_and, evT_or, evT_nt, evI_val, evI_range1, evTs_nil, evTs_one, q_bind, q_bindS, q_of, q_at, q_rw, q_seq_nx, q_seq_rt, q_var, vd_dat, vd_own, q_rd, rdo_dat, rdo_own, q_brw_var, thV_some, twV_some, q_two_var, q_and, q_or, q_chain, q_callD, q_callKD, kiR_some, q_b1F, q_b1, q_isi, q_mut, q_ownK, oko_own, kindD, q_mutD, mdo_own, mdr_some, g_fn, g_ki, g_tru, g_cmp, g_bin, gg_get, g_slc, g_rev, g_it, g_isi_int, g_isi_bool, g_isi_str, g_isi_tuple, g_isi_list, g_bF_len, g_bF_repr, g_bF_max, g_bF_str, g_bF_int, g_bF_tuple, g_bF_all, g_bF_any, g_bF_list, g_b1_len, g_b1_repr, g_b1_max, g_b1_str, g_b1_int, g_b1_tuple, g_b1_all, g_mu_append, k_tbl, c_eqI, c_neI, c_ltI, c_gtI, c_geI, c_leI, c_eqL, c_neL, c_eqT, c_neT, c_isB, c_notB, c_eqS, ownD, asgL, t_bl, t_non, t_lst, t_tup, n_str, n_lst, n_tup, tu_lst, li_tup, li_lst, i_int, i1_int, it_lst, it_tup, rv_tup, at_tup, o_some, g_tupL, g_lstL, sl_tup, b_addI, b_subI, b_addB, b_subB, b_subIB, bw_con, tw_con, et_con, bw_glob, tw_glob, et_glob, bw_bin, tw_bin, et_bin, bw_neg, tw_neg, et_neg, bw_nt, tw_nt, bw_and, tw_and, bw_or, tw_or, bw_cmp, tw_cmp, et_cmp, bw_chain, tw_chain, et_chain, bw_ife, tw_ife, et_ife, bw_tup, tw_tup, et_tup, bw_lst, tw_lst, et_lst, bw_dnew, tw_dnew, et_dnew, bw_sub, tw_sub, et_sub, bw_slc, tw_slc, et_slc, bw_rev, tw_rev, et_rev, bw_call, tw_call, et_call, bw_callK, tw_callK, et_callK, bw_b1, tw_b1, et_b1, bw_mth, tw_mth, et_mth, bw_mut, tw_mut, et_mut, bw_isi, tw_isi, et_isi, bw_lc, tw_lc, et_lc, bw_sset, tw_sset, et_sset, et_var, List.getElem?_cons_zero, List.getElem?_cons_succ, List.set_cons_zero, List.set_cons_succ, List.length_cons, List.length_nil, Option.map_some, if_true, if_false, Bool.false_eq_true, Nat.zero_add, Nat.reduceAdd, Nat.reduceLT, Nat.reduceLeDiff, List.zip_cons_cons, List.zip_nil_left, List.zip_nil_right, List.foldl_cons, List.foldl_nil, Bool.not_true, Bool.not_false, decide_true, decide_false, Bool.true_and, Bool.false_and]
  cases isbD true d <;> simp only [exSs_cons, exSs_nil, exS_ret, exS_retN, exS_asg, exS_asgO, exS_asgT, exS_par2, exS_ex, exS_ifs, exS_for, for_nil, for_cons, fo_some, fr_nx, fr_rt, as_nm, as_tup, ev_var, ev_con, ev_bin, ev_cmp, ev_chain, ev_nt, ev_and, ev_or, ev_ife, ev_tup, ev_lst, ev_dnew, ev_sub, ev_slc, ev_rev, ev_call, ev_callK, ev_b1, ev_mut, ev_isi, evs_nil, evs_cons, evO_nil, evO_one, evT_and, evT_or, evT_nt, evI_val, evI_range1, evTs_nil, evTs_one, q_bind, q_bindS, q_of, q_at, q_rw, q_seq_nx, q_seq_rt, q_var, vd_dat, vd_own, q_rd, rdo_dat, rdo_own, q_brw_var, thV_some, twV_some, q_two_var, q_and, q_or, q_chain, q_callD, q_callKD, kiR_some, q_b1F, q_b1, q_isi, q_mut, q_ownK, oko_own, kindD, q_mutD, mdo_own, mdr_some, g_fn, g_ki, g_tru, g_cmp, g_bin, gg_get, g_slc, g_rev, g_it, g_isi_int, g_isi_bool, g_isi_str, g_isi_tuple, g_isi_list, g_bF_len, g_bF_repr, g_bF_max, g_bF_str, g_bF_int, g_bF_tuple, g_bF_all, g_bF_any, g_bF_list, g_b1_len, g_b1_repr, g_b1_max, g_b1_str, g_b1_int, g_b1_tuple, g_b1_all, g_mu_append, k_tbl, c_eqI, c_neI, c_ltI, c_gtI, c_geI, c_leI, c_eqL, c_neL, c_eqT, c_neT, c_isB, c_notB, c_eqS, ownD, asgL, t_bl, t_non, t_lst, t_tup, n_str, n_lst, n_tup, tu_lst, li_tup, li_lst, i_int, i1_int, it_lst, it_tup, rv_tup, at_tup, o_some, g_tupL, g_lstL, sl_tup, b_addI, b_subI, b_addB, b_subB, b_subIB, bw_con, tw_con, et_con, bw_glob, tw_glob, et_glob, bw_bin, tw_bin, et_bin, bw_neg, tw_neg, et_neg, bw_nt, tw_nt, bw_and, tw_and, bw_or, tw_or, bw_cmp, tw_cmp, et_cmp, bw_chain, tw_chain, et_chain, bw_ife, tw_ife, et_ife, bw_tup, tw_tup, et_tup, bw_lst, tw_lst, et_lst, bw_dnew, tw_dnew, et_dnew, bw_sub, tw_sub, et_sub, bw_slc, tw_slc, et_slc, bw_rev, tw_rev, et_rev, bw_call, tw_call, et_call, bw_callK, tw_callK, et_callK, bw_b1, tw_b1, et_b1, bw_mth, tw_mth, et_mth, bw_mut, tw_mut, et_mut, bw_isi, tw_isi, et_isi, bw_lc, tw_lc, et_lc, bw_sset, tw_sset, et_sset, et_var, List.getElem?_cons_zero, List.getElem?_cons_succ, List.set_cons_zero, List.set_cons_succ, List.length_cons, List.length_nil, Option.map_some, if_true, if_false, Bool.false_eq_true, Nat.zero_add, Nat.reduceAdd, Nat.reduceLT, Nat.reduceLeDiff, List.zip_cons_cons, List.zip_nil_left, List.zip_nil_right, List.foldl_cons, List.foldl_nil, Bool.not_true, Bool.not_false, decide_true, decide_false, Bool.true_and, Bool.false_and, Bool.not_true, Bool.not_false]
def F_is_row : Fn := runB (stdG (fl [("is_int", F_is_int)]) ki0) b_is_row 3 4
theorem is_row_eq (m a : Int) (d : D) (w : DW) (h : lv d = true) (hs : sz d ≤ 100000) : F_is_row [d, .int m, .int a] w = .ok (.bl (rowB m a d)) w := by
  refine q_run rfl ?_
  show exSs _ b_is_row [.dat d, .dat (.int m), .dat (.int a), .emp] w = _
  unfold b_is_row
  have hk := k_tuple (lv_okT h)
  cases d <;> first | (exact absurd h Bool.false_ne_true) | skip
  case tup ns =>
    rw [lv, lvs_iff] at h
    have hn : ns.length ≤ 100000 := by
      have := szs_len ns
      simp only [sz] at hs
      omega
    by_cases ha : (ns.length : Int) = a
    · have hlc : lcD (.nm "number" 3) [3] (evTs (stdG (fl [("is_int", F_is_int)]) ki0) .nil) (ev (stdG (fl [("is_int", F_is_int)]) ki0) (.and (.call "is_int" (.cons (.var "number" 3) .nil)) (.chain .LtE .Lt (.con (.int 0)) (.var "number" 3) (.var "m" 1)))) ns [] [.dat (.tup ns), .dat (.int m), .dat (.int a), .emp] w
          = .ok (([] : List D) ++ (ns.filter fun _ => true).map fun d => .bl (cellB m d)) [.dat (.tup ns), .dat (.int m), .dat (.int a), .emp] w := by
        refine lc_pure (fun _ => true) (fun d => .bl (cellB m d)) (fun d => [.dat (.tup ns), .dat (.int m), .dat (.int a), .dat d]) rfl (fun d _ => rfl) (fun d _ => by simp only [exSs_cons, exSs_nil, exS_ret, exS_retN, exS_asg, exS_asgO, exS_asgT, exS_par2, exS_ex, exS_ifs, exS_for, for_nil, for_cons, fo_some, fr_nx, fr_rt, as_nm, as_tup, ev_var, ev_con, ev_bin, ev_cmp, ev_chain, ev_nt, ev_and, ev_or, ev_ife, ev_tup, ev_lst, ev_dnew, ev_sub, ev_slc, ev_rev, ev_call, ev_callK, ev_b1, ev_mut, ev_isi, evs_nil, evs_cons, evO_nil, evO_one, evT_and, evT_or, evT_nt, evI_val, evI_range1, evTs_nil, evTs_one, q_bind, q_bindS, q_of, q_at, q_rw, q_seq_nx, q_seq_rt, q_var, vd_dat, vd_own, q_rd, rdo_dat, rdo_own, q_brw_var, thV_some, twV_some, q_two_var, q_and, q_or, q_chain, q_callD, q_callKD, kiR_some, q_b1F, q_b1, q_isi, q_mut, q_ownK, oko_own, kindD, q_mutD, mdo_own, mdr_some, g_fn, g_ki, g_tru, g_cmp, g_bin, gg_get, g_slc, g_rev, g_it, g_isi_int, g_isi_bool, g_isi_str, g_isi_tuple, g_isi_list, g_bF_len, g_bF_repr, g_bF_max, g_bF_str, g_bF_int, g_bF_tuple, g_bF_all, g_bF_any, g_bF_list, g_b1_len, g_b1_repr, g_b1_max, g_b1_str, g_b1_int, g_b1_tuple, g_b1_all, g_mu_append, k_tbl, c_eqI, c_neI, c_ltI, c_gtI, c_geI, c_leI, c_eqL, c_neL, c_eqT, c_neT, c_isB, c_notB, c_eqS, ownD, asgL, t_bl, t_non, t_lst, t_tup, n_str, n_lst, n_tup, tu_lst, li_tup, li_lst, i_int, i1_int, it_lst, it_tup, rv_tup, at_tup, o_some, g_tupL, g_lstL, sl_tup, b_addI, b_subI, b_addB, b_subB, b_subIB, bw_con, tw_con, et_con, bw_glob, tw_glob, et_glob, bw_bin, tw_bin, et_bin, bw_neg, tw_neg, et_neg, bw_nt, tw_nt, bw_and, tw_and, bw_or, tw_or, bw_cmp, tw_cmp, et_cmp, bw_chain, tw_chain, et_chain, bw_ife, tw_ife, et_ife, bw_tup, tw_tup, et_tup, bw_lst, tw_lst, et_lst, bw_dnew, tw_dnew, et_dnew, bw_sub, tw_sub, et_sub, bw_slc, tw_slc, et_slc, bw_rev, tw_rev, et_rev, bw_call, tw_call, et_call, bw_callK, tw_callK, et_callK, bw_b1, tw_b1, et_b1, bw_mth, tw_mth, et_mth, bw_mut, tw_mut, et_mut, bw_isi, tw_isi, et_isi, bw_lc, tw_lc, et_lc, bw_sset, tw_sset, et_sset, et_var, List.getElem?_cons_zero, List.getElem?_cons_succ, List.set_cons_zero, List.set_cons_succ, List.length_cons, List.length_nil, Option.map_some, if_true, if_false, Bool.false_eq_true, Nat.zero_add, Nat.reduceAdd, Nat.reduceLT, Nat.reduceLeDiff, List.zip_cons_cons, List.zip_nil_left, List.zip_nil_right, List.foldl_cons, List.foldl_nil, Bool.not_true, Bool.not_false, decide_true, decide_false]) (fun d hd _ => ?_) (fun d _ => rfl) (by simpa using hn)
        have hd := h d hd
        simp only [exSs_cons, exSs_nil, exS_ret, exS_retN, exS_asg, exS_asgO, exS_asgT, exS_par2, exS_ex, exS_ifs, exS_for, for_nil, for_cons, fo_some, fr_nx, fr_rt, as_nm, as_tup, ev_var, ev_con, ev_bin, ev_cmp, ev_chain, ev_nt, ev_and, ev_or, ev_ife, ev_tup, ev_lst, ev_dnew, ev_sub, ev_slc, ev_rev, ev_call, ev_callK, ev_b1, ev_mut, ev_isi, evs_nil, evs_cons, evO_nil, evO_one, evT_and, evT_or, evT_nt, evI_val, evI_range1, evTs_nil, evTs_one, q_bind, q_bindS, q_of, q_at, q_rw, q_seq_nx, q_seq_rt, q_var, vd_dat, vd_own, q_rd, rdo_dat, rdo_own, q_brw_var, thV_some, twV_some, q_two_var, q_and, q_or, q_chain, q_callD, q_callKD, kiR_some, q_b1F, q_b1, q_isi, q_mut, q_ownK, oko_own, kindD, q_mutD, mdo_own, mdr_some, g_fn, g_ki, g_tru, g_cmp, g_bin, gg_get, g_slc, g_rev, g_it, g_isi_int, g_isi_bool, g_isi_str, g_isi_tuple, g_isi_list, g_bF_len, g_bF_repr, g_bF_max, g_bF_str, g_bF_int, g_bF_tuple, g_bF_all, g_bF_any, g_bF_list, g_b1_len, g_b1_repr, g_b1_max, g_b1_str, g_b1_int, g_b1_tuple, g_b1_all, g_mu_append, k_tbl, c_eqI, c_neI, c_ltI, c_gtI, c_geI, c_leI, c_eqL, c_neL, c_eqT, c_neT, c_isB, c_notB, c_eqS, ownD, asgL, t_bl, t_non, t_lst, t_tup, n_str, n_lst, n_tup, tu_lst, li_tup, li_lst, i_int, i1_int, it_lst, it_tup, rv_tup, at_tup, o_some, g_tupL, g_lstL, sl_tup, b_addI, b_subI, b_addB, b_subB, b_subIB, bw_con, tw_con, et_con, bw_glob, tw_glob, et_glob, bw_bin, tw_bin, et_bin, bw_neg, tw_neg, et_neg, bw_nt, tw_nt, bw_and, tw_and, bw_or, tw_or, bw_cmp, tw_cmp, et_cmp, bw_chain, tw_chain, et_chain, bw_ife, tw_ife, et_ife, bw_tup, tw_tup, et_tup, bw_lst, tw_lst, et_lst, bw_dnew, tw_dnew, et_dnew, bw_sub, tw_sub, et_sub, bw_slc, tw_slc, et_slc, bw_rev, tw_rev, et_rev, bw_call, tw_call, et_call, bw_callK, tw_callK, et_callK, bw_b1, tw_b1, et_b1, bw_mth, tw_mth, et_mth, bw_mut, tw_mut, et_mut, bw_isi, tw_isi, et_isi, bw_lc, tw_lc, et_lc, bw_sset, tw_sset, et_sset, et_var, List.getElem?_cons_zero, List.getElem?_cons_succ, List.set_cons_zero, List.set_cons_succ, List.length_cons, List.length_nil, Option.map_some, if_true, if_false, Bool.false_eq_true, Nat.zero_add, Nat.reduceAdd, Nat.reduceLT, Nat.reduceLeDiff, List.zip_cons_cons, List.zip_nil_left, List.zip_nil_right, List.foldl_cons, List.foldl_nil, Bool.not_true, Bool.not_false, decide_true, decide_false, fl_hit, is_int_eq d w (lv_okT hd)]
        cases d <;> simp only [isI, exSs_cons, exSs_nil, exS_ret, exS_retN, exS_asg, exS_asgO, exS_asgT, exS_par2, exS_ex, exS_ifs, exS_for, for_nil, for_cons, fo_some, fr_nx, fr_rt, as_nm, as_tup, ev_var, ev_con, ev_bin, ev_cmp, ev_chain, ev_nt, ev_and, ev_or, ev_ife, ev_tup, ev_lst, ev_dnew, ev_sub, ev_slc, ev_rev, ev_call, ev_callK, ev_b1, ev_mut, ev_isi, evs_nil, evs_cons, evO_nil, evO_one, evT_and, evT_or, evT_nt, evI_val, evI_range1, evTs_nil, evTs_one, q_bind, q_bindS, q_of, q_at, q_rw, q_seq_nx, q_seq_rt, q_var, vd_dat, vd_own, q_rd, rdo_dat, rdo_own, q_brw_var, thV_some, twV_some, q_two_var, q_and, q_or, q_chain, q_callD, q_callKD, kiR_some, q_b1F, q_b1, q_isi, q_mut, q_ownK, oko_own, kindD, q_mutD, mdo_own, mdr_some, g_fn, g_ki, g_tru, g_cmp, g_bin, gg_get, g_slc, g_rev, g_it, g_isi_int, g_isi_bool, g_isi_str, g_isi_tuple, g_isi_list, g_bF_len, g_bF_repr, g_bF_max, g_bF_str, g_bF_int, g_bF_tuple, g_bF_all, g_bF_any, g_bF_list, g_b1_len, g_b1_repr, g_b1_max, g_b1_str, g_b1_int, g_b1_tuple, g_b1_all, g_mu_append, k_tbl, c_eqI, c_neI, c_ltI, c_gtI, c_geI, c_leI, c_eqL, c_neL, c_eqT, c_neT, c_isB, c_notB, c_eqS, ownD, asgL, t_bl, t_non, t_lst, t_tup, n_str, n_lst, n_tup, tu_lst, li_tup, li_lst, i_int, i1_int, it_lst, it_tup, rv_tup, at_tup, o_some, g_tupL, g_lstL, sl_tup, b_addI, b_subI, b_addB, b_subB, b_subIB, bw_con, tw_con, et_con, bw_glob, tw_glob, et_glob, bw_bin, tw_bin, et_bin, bw_neg, tw_neg, et_neg, bw_nt, tw_nt, bw_and, tw_and, bw_or, tw_or, bw_cmp, tw_cmp, et_cmp, bw_chain, tw_chain, et_chain, bw_ife, tw_ife, et_ife, bw_tup, tw_tup, et_tup, bw_lst, tw_lst, et_lst, bw_dnew, tw_dnew, et_dnew, bw_sub, tw_sub, et_sub, bw_slc, tw_slc, et_slc, bw_rev, tw_rev, et_rev, bw_call, tw_call, et_call, bw_callK, tw_callK, et_callK, bw_b1, tw_b1, et_b1, bw_mth, tw_mth, et_mth, bw_mut, tw_mut, et_mut, bw_isi, tw_isi, et_isi, bw_lc, tw_lc, et_lc, bw_sset, tw_sset, et_sset, et_var, List.getElem?_cons_zero, List.getElem?_cons_succ, List.set_cons_zero, List.set_cons_succ, List.length_cons, List.length_nil, Option.map_some, if_true, if_false, Bool.false_eq_true, Nat.zero_add, Nat.reduceAdd, Nat.reduceLT, Nat.reduceLeDiff, List.zip_cons_cons, List.zip_nil_left, List.zip_nil_right, List.foldl_cons, List.foldl_nil, Bool.not_true, Bool.not_false, decide_true, decide_false]
        case int i hm =>
          by_cases h0 : i < 0
          · have e : (!decide (i < 0)) = false := by simp [h0]
            rw [e]
            simp only [exSs_cons, exSs_nil, exS_ret, exS_retN, exS_asg, exS_asgO, exS_asgT, exS_par2, exS_ex, exS_ifs, exS_for, for_nil, for_cons, fo_some, fr_nx, fr_rt, as_nm, as_tup, ev_var, ev_con, ev_bin, ev_cmp, ev_chain, ev_nt, ev_and, ev_or, ev_ife, ev_tup, ev_lst, ev_dnew, ev_sub, ev_slc, ev_rev, ev_call, ev_callK, ev_b1, ev_mut, ev_isi, evs_nil, evs_cons, evO_nil, evO_one, evT_and, evT_or, evT_nt, evI_val, evI_range1, evTs_nil, evTs_one, q_bind, q_bindS, q_of, q_at, q_rw, q_seq_nx, q_seq_rt, q_var, vd_dat, vd_own, q_rd, rdo_dat, rdo_own, q_brw_var, thV_some, twV_some, q_two_var, q_and, q_or, q_chain, q_callD, q_callKD, kiR_some, q_b1F, q_b1, q_isi, q_mut, q_ownK, oko_own, kindD, q_mutD, mdo_own, mdr_some, g_fn, g_ki, g_tru, g_cmp, g_bin, gg_get, g_slc, g_rev, g_it, g_isi_int, g_isi_bool, g_isi_str, g_isi_tuple, g_isi_list, g_bF_len, g_bF_repr, g_bF_max, g_bF_str, g_bF_int, g_bF_tuple, g_bF_all, g_bF_any, g_bF_list, g_b1_len, g_b1_repr, g_b1_max, g_b1_str, g_b1_int, g_b1_tuple, g_b1_all, g_mu_append, k_tbl, c_eqI, c_neI, c_ltI, c_gtI, c_geI, c_leI, c_eqL, c_neL, c_eqT, c_neT, c_isB, c_notB, c_eqS, ownD, asgL, t_bl, t_non, t_lst, t_tup, n_str, n_lst, n_tup, tu_lst, li_tup, li_lst, i_int, i1_int, it_lst, it_tup, rv_tup, at_tup, o_some, g_tupL, g_lstL, sl_tup, b_addI, b_subI, b_addB, b_subB, b_subIB, bw_con, tw_con, et_con, bw_glob, tw_glob, et_glob, bw_bin, tw_bin, et_bin, bw_neg, tw_neg, et_neg, bw_nt, tw_nt, bw_and, tw_and, bw_or, tw_or, bw_cmp, tw_cmp, et_cmp, bw_chain, tw_chain, et_chain, bw_ife, tw_ife, et_ife, bw_tup, tw_tup, et_tup, bw_lst, tw_lst, et_lst, bw_dnew, tw_dnew, et_dnew, bw_sub, tw_sub, et_sub, bw_slc, tw_slc, et_slc, bw_rev, tw_rev, et_rev, bw_call, tw_call, et_call, bw_callK, tw_callK, et_callK, bw_b1, tw_b1, et_b1, bw_mth, tw_mth, et_mth, bw_mut, tw_mut, et_mut, bw_isi, tw_isi, et_isi, bw_lc, tw_lc, et_lc, bw_sset, tw_sset, et_sset, et_var, List.getElem?_cons_zero, List.getElem?_cons_succ, List.set_cons_zero, List.set_cons_succ, List.length_cons, List.length_nil, Option.map_some, if_true, if_false, Bool.false_eq_true, Nat.zero_add, Nat.reduceAdd, Nat.reduceLT, Nat.reduceLeDiff, List.zip_cons_cons, List.zip_nil_left, List.zip_nil_right, List.foldl_cons, List.foldl_nil, Bool.not_true, Bool.not_false, decide_true, decide_false, cellB]
            simp [h0]; try omega
          · have e : (!decide (i < 0)) = true := by simp [h0]
            rw [e]
            simp only [exSs_cons, exSs_nil, exS_ret, exS_retN, exS_asg, exS_asgO, exS_asgT, exS_par2, exS_ex, exS_ifs, exS_for, for_nil, for_cons, fo_some, fr_nx, fr_rt, as_nm, as_tup, ev_var, ev_con, ev_bin, ev_cmp, ev_chain, ev_nt, ev_and, ev_or, ev_ife, ev_tup, ev_lst, ev_dnew, ev_sub, ev_slc, ev_rev, ev_call, ev_callK, ev_b1, ev_mut, ev_isi, evs_nil, evs_cons, evO_nil, evO_one, evT_and, evT_or, evT_nt, evI_val, evI_range1, evTs_nil, evTs_one, q_bind, q_bindS, q_of, q_at, q_rw, q_seq_nx, q_seq_rt, q_var, vd_dat, vd_own, q_rd, rdo_dat, rdo_own, q_brw_var, thV_some, twV_some, q_two_var, q_and, q_or, q_chain, q_callD, q_callKD, kiR_some, q_b1F, q_b1, q_isi, q_mut, q_ownK, oko_own, kindD, q_mutD, mdo_own, mdr_some, g_fn, g_ki, g_tru, g_cmp, g_bin, gg_get, g_slc, g_rev, g_it, g_isi_int, g_isi_bool, g_isi_str, g_isi_tuple, g_isi_list, g_bF_len, g_bF_repr, g_bF_max, g_bF_str, g_bF_int, g_bF_tuple, g_bF_all, g_bF_any, g_bF_list, g_b1_len, g_b1_repr, g_b1_max, g_b1_str, g_b1_int, g_b1_tuple, g_b1_all, g_mu_append, k_tbl, c_eqI, c_neI, c_ltI, c_gtI, c_geI, c_leI, c_eqL, c_neL, c_eqT, c_neT, c_isB, c_notB, c_eqS, ownD, asgL, t_bl, t_non, t_lst, t_tup, n_str, n_lst, n_tup, tu_lst, li_tup, li_lst, i_int, i1_int, it_lst, it_tup, rv_tup, at_tup, o_some, g_tupL, g_lstL, sl_tup, b_addI, b_subI, b_addB, b_subB, b_subIB, bw_con, tw_con, et_con, bw_glob, tw_glob, et_glob, bw_bin, tw_bin, et_bin, bw_neg, tw_neg, et_neg, bw_nt, tw_nt, bw_and, tw_and, bw_or, tw_or, bw_cmp, tw_cmp, et_cmp, bw_chain, tw_chain, et_chain, bw_ife, tw_ife, et_ife, bw_tup, tw_tup, et_tup, bw_lst, tw_lst, et_lst, bw_dnew, tw_dnew, et_dnew, bw_sub, tw_sub, et_sub, bw_slc, tw_slc, et_slc, bw_rev, tw_rev, et_rev, bw_call, tw_call, et_call, bw_callK, tw_callK, et_callK, bw_b1, tw_b1, et_b1, bw_mth, tw_mth, et_mth, bw_mut, tw_mut, et_mut, bw_isi, tw_isi, et_isi, bw_lc, tw_lc, et_lc, bw_sset, tw_sset, et_sset, et_var, List.getElem?_cons_zero, List.getElem?_cons_succ, List.set_cons_zero, List.set_cons_succ, List.length_cons, List.length_nil, Option.map_some, if_true, if_false, Bool.false_eq_true, Nat.zero_add, Nat.reduceAdd, Nat.reduceLT, Nat.reduceLeDiff, List.zip_cons_cons, List.zip_nil_left, List.zip_nil_right, List.foldl_cons, List.foldl_nil, Bool.not_true, Bool.not_false, decide_true, decide_false, cellB]
            simp [h0]; try omega
        all_goals rfl
      simp only [exSs_cons, exSs_nil, exS_ret, exS_retN, exS_asg, exS_asgO, exS_asgT, exS_par2, exS_ex, exS_ifs, exS_for, for_nil, for_cons, fo_some, fr_nx, fr_rt, as_nm, as_tup, ev_var, ev_con, ev_bin, ev_cmp, ev_chain, ev_nt, ev_and, ev_or, ev_ife, ev_tup, ev_lst, ev_dnew, ev_sub, ev_slc, ev_rev, ev_call, ev_callK, ev_b1, ev_mut, ev_isi, evs_nil, evs_cons, evO_nil, evO_one, evT_and, evT_or, evT_nt, evI_val, evI_range1, evTs_nil, evTs_one, q_bind, q_bindS, q_of, q_at, q_rw, q_seq_nx, q_seq_rt, q_var, vd_dat, vd_own, q_rd, rdo_dat, rdo_own, q_brw_var, thV_some, twV_some, q_two_var, q_and, q_or, q_chain, q_callD, q_callKD, kiR_some, q_b1F, q_b1, q_isi, q_mut, q_ownK, oko_own, kindD, q_mutD, mdo_own, mdr_some, g_fn, g_ki, g_tru, g_cmp, g_bin, gg_get, g_slc, g_rev, g_it, g_isi_int, g_isi_bool, g_isi_str, g_isi_tuple, g_isi_list, g_bF_len, g_bF_repr, g_bF_max, g_bF_str, g_bF_int, g_bF_tuple, g_bF_all, g_bF_any, g_bF_list, g_b1_len, g_b1_repr, g_b1_max, g_b1_str, g_b1_int, g_b1_tuple, g_b1_all, g_mu_append, k_tbl, c_eqI, c_neI, c_ltI, c_gtI, c_geI, c_leI, c_eqL, c_neL, c_eqT, c_neT, c_isB, c_notB, c_eqS, ownD, asgL, t_bl, t_non, t_lst, t_tup, n_str, n_lst, n_tup, tu_lst, li_tup, li_lst, i_int, i1_int, it_lst, it_tup, rv_tup, at_tup, o_some, g_tupL, g_lstL, sl_tup, b_addI, b_subI, b_addB, b_subB, b_subIB, bw_con, tw_con, et_con, bw_glob, tw_glob, et_glob, bw_bin, tw_bin, et_bin, bw_neg, tw_neg, et_neg, bw_nt, tw_nt, bw_and, tw_and, bw_or, tw_or, bw_cmp, tw_cmp, et_cmp, bw_chain, tw_chain, et_chain, bw_ife, tw_ife, et_ife, bw_tup, tw_tup, et_tup, bw_lst, tw_lst, et_lst, bw_dnew, tw_dnew, et_dnew, bw_sub, tw_sub, et_sub, bw_slc, tw_slc, et_slc, bw_rev, tw_rev, et_rev, bw_call, tw_call, et_call, bw_callK, tw_callK, et_callK, bw_b1, tw_b1, et_b1, bw_mth, tw_mth, et_mth, bw_mut, tw_mut, et_mut, bw_isi, tw_isi, et_isi, bw_lc, tw_lc, et_lc, bw_sset, tw_sset, et_sset, et_var, List.getElem?_cons_zero, List.getElem?_cons_succ, List.set_cons_zero, List.set_cons_succ, List.length_cons, List.length_nil, Option.map_some, if_true, if_false, Bool.false_eq_true, Nat.zero_add, Nat.reduceAdd, Nat.reduceLT, Nat.reduceLeDiff, List.zip_cons_cons, List.zip_nil_left, List.zip_nil_right, List.foldl_cons, List.foldl_nil, Bool.not_true, Bool.not_false, decide_true, decide_false, hk, tupB, ev_lc, List.map_cons, List.map_nil, hlc, all_map, rowB, ha, filt_true, List.nil_append, Bool.true_and]
    · simp only [exSs_cons, exSs_nil, exS_ret, exS_retN, exS_asg, exS_asgO, exS_asgT, exS_par2, exS_ex, exS_ifs, exS_for, for_nil, for_cons, fo_some, fr_nx, fr_rt, as_nm, as_tup, ev_var, ev_con, ev_bin, ev_cmp, ev_chain, ev_nt, ev_and, ev_or, ev_ife, ev_tup, ev_lst, ev_dnew, ev_sub, ev_slc, ev_rev, ev_call, ev_callK, ev_b1, ev_mut, ev_isi, evs_nil, evs_cons, evO_nil, evO_one, evT_and, evT_or, evT_nt, evI_val, evI_range1, evTs_nil, evTs_one, q_bind, q_bindS, q_of, q_at, q_rw, q_seq_nx, q_seq_rt, q_var, vd_dat, vd_own, q_rd, rdo_dat, rdo_own, q_brw_var, thV_some, twV_some, q_two_var, q_and, q_or, q_chain, q_callD, q_callKD, kiR_some, q_b1F, q_b1, q_isi, q_mut, q_ownK, oko_own, kindD, q_mutD, mdo_own, mdr_some, g_fn, g_ki, g_tru, g_cmp, g_bin, gg_get, g_slc, g_rev, g_it, g_isi_int, g_isi_bool, g_isi_str, g_isi_tuple, g_isi_list, g_bF_len, g_bF_repr, g_bF_max, g_bF_str, g_bF_int, g_bF_tuple, g_bF_all, g_bF_any, g_bF_list, g_b1_len, g_b1_repr, g_b1_max, g_b1_str, g_b1_int, g_b1_tuple, g_b1_all, g_mu_append, k_tbl, c_eqI, c_neI, c_ltI, c_gtI, c_geI, c_leI, c_eqL, c_neL, c_eqT, c_neT, c_isB, c_notB, c_eqS, ownD, asgL, t_bl, t_non, t_lst, t_tup, n_str, n_lst, n_tup, tu_lst, li_tup, li_lst, i_int, i1_int, it_lst, it_tup, rv_tup, at_tup, o_some, g_tupL, g_lstL, sl_tup, b_addI, b_subI, b_addB, b_subB, b_subIB, bw_con, tw_con, et_con, bw_glob, tw_glob, et_glob, bw_bin, tw_bin, et_bin, bw_neg, tw_neg, et_neg, bw_nt, tw_nt, bw_and, tw_and, bw_or, tw_or, bw_cmp, tw_cmp, et_cmp, bw_chain, tw_chain, et_chain, bw_ife, tw_ife, et_ife, bw_tup, tw_tup, et_tup, bw_lst, tw_lst, et_lst, bw_dnew, tw_dnew, et_dnew, bw_sub, tw_sub, et_sub, bw_slc, tw_slc, et_slc, bw_rev, tw_rev, et_rev, bw_call, tw_call, et_call, bw_callK, tw_callK, et_callK, bw_b1, tw_b1, et_b1, bw_mth, tw_mth, et_mth, bw_mut, tw_mut, et_mut, bw_isi, tw_isi, et_isi, bw_lc, tw_lc, et_lc, bw_sset, tw_sset, et_sset, et_var, List.getElem?_cons_zero, List.getElem?_cons_succ, List.set_cons_zero, List.set_cons_succ, List.length_cons, List.length_nil, Option.map_some, if_true, if_false, Bool.false_eq_true, Nat.zero_add, Nat.reduceAdd, Nat.reduceLT, Nat.reduceLeDiff, List.zip_cons_cons, List.zip_nil_left, List.zip_nil_right, List.foldl_cons, List.foldl_nil, Bool.not_true, Bool.not_false, decide_true, decide_false, hk, tupB, rowB, ha, Bool.false_and]
  all_goals simp only [exSs_cons, exSs_nil, exS_ret, exS_retN, exS_asg, exS_asgO, exS_asgT, exS_par2, exS_ex, exS_ifs, exS_for, for_nil, for_cons, fo_some, fr_nx, fr_rt, as_nm, as_tup, ev_var, ev_con, ev_bin, ev_cmp, ev_chain, ev_nt, ev_and, ev_or, ev_ife, ev_tup, ev_lst, ev_dnew, ev_sub, ev_slc, ev_rev, ev_call, ev_callK, ev_b1, ev_mut, ev_isi, evs_nil, evs_cons, evO_nil, evO_one, evT_and, evT_or, evT_nt, evI_val, evI_range1, evTs_nil, evTs_one, q_bind, q_bindS, q_of, q_at, q_rw, q_seq_nx, q_seq_rt, q_var, vd_dat, vd_own, q_rd, rdo_dat, rdo_own, q_brw_var, thV_some, twV_some, q_two_var, q_and, q_or, q_chain, q_callD, q_callKD, kiR_some, q_b1F, q_b1, q_isi, q_mut, q_ownK, oko_own, kindD, q_mutD, mdo_own, mdr_some, g_fn, g_ki, g_tru, g_cmp, g_bin, gg_get, g_slc, g_rev, g_it, g_isi_int, g_isi_bool, g_isi_str, g_isi_tuple, g_isi_list, g_bF_len, g_bF_repr, g_bF_max, g_bF_str, g_bF_int, g_bF_tuple, g_bF_all, g_bF_any, g_bF_list, g_b1_len, g_b1_repr, g_b1_max, g_b1_str, g_b1_int, g_b1_tuple, g_b1_all, g_mu_append, k_tbl, c_eqI, c_neI, c_ltI, c_gtI, c_geI, c_leI, c_eqL, c_neL, c_eqT, c_neT, c_isB, c_notB, c_eqS, ownD, asgL, t_bl, t_non, t_lst, t_tup, n_str, n_lst, n_tup, tu_lst, li_tup, li_lst, i_int, i1_int, it_lst, it_tup, rv_tup, at_tup, o_some, g_tupL, g_lstL, sl_tup, b_addI, b_subI, b_addB, b_subB, b_subIB, bw_con, tw_con, et_con, bw_glob, tw_glob, et_glob, bw_bin, tw_bin, et_bin, bw_neg, tw_neg, et_neg, bw_nt, tw_nt, bw_and, tw_and, bw_or, tw_or, bw_cmp, tw_cmp, et_cmp, bw_chain, tw_chain, et_chain, bw_ife, tw_ife, et_ife, bw_tup, tw_tup, et_tup, bw_lst, tw_lst, et_lst, bw_dnew, tw_dnew, et_dnew, bw_sub, tw_sub, et_sub, bw_slc, tw_slc, et_slc, bw_rev, tw_rev, et_rev, bw_call, tw_call, et_call, bw_callK, tw_callK, et_callK, bw_b1, tw_b1, et_b1, bw_mth, tw_mth, et_mth, bw_mut, tw_mut, et_mut, bw_isi, tw_isi, et_isi, bw_lc, tw_lc, et_lc, bw_sset, tw_sset, et_sset, et_var, List.getElem?_cons_zero, List.getElem?_cons_succ, List.set_cons_zero, List.set_cons_succ, List.length_cons, List.length_nil, Option.map_some, if_true, if_false, Bool.false_eq_true, Nat.zero_add, Nat.reduceAdd, Nat.reduceLT, Nat.reduceLeDiff, List.zip_cons_cons, List.zip_nil_left, List.zip_nil_right, List.foldl_cons, List.foldl_nil, Bool.not_true, Bool.not_false, decide_true, decide_false, hk, tupB, rowB]
theorem sz_mem {d : D} : ∀ {ds : List D}, d ∈ ds → sz d ≤ szs ds
  | e :: ds, h => by
    rcases List.mem_cons.mp h with z | z
    · subst z
      simp only [szs]
      omega
    · have := sz_mem z
      simp only [szs]
      omega
def F_is_table : Fn := runB (stdG (fl [("is_row", F_is_row)]) ki0) b_is_table 4 5
theorem is_table_eq (m a b : Int) (d : D) (w : DW) (h : lv d = true) (hs : sz d ≤ 100000) : F_is_table [d, .int m, .int a, .int b] w = .ok (.bl (tabB m a b d)) w := by
  refine q_run rfl ?_
  show exSs _ b_is_table [.dat d, .dat (.int m), .dat (.int a), .dat (.int b), .emp] w = _
  unfold b_is_table
  have hk := k_tuple (lv_okT h)
  cases d <;> first | (exact absurd h Bool.false_ne_true) | skip
  case tup ns =>
    rw [lv, lvs_iff] at h
    have hn : szs ns ≤ 100000 := by
      simp only [sz] at hs
      omega
    have hn2 : ns.length ≤ 100000 := Nat.le_trans (szs_len ns) hn
    by_cases ha : (ns.length : Int) = b
    · have hlc : lcD (.nm "row" 4) [4] (evTs (stdG (fl [("is_row", F_is_row)]) ki0) .nil) (ev (stdG (fl [("is_row", F_is_row)]) ki0) (.call "is_row" (.cons (.var "row" 4) (.cons (.var "m" 1) (.cons (.var "a" 2) .nil))))) ns [] [.dat (.tup ns), .dat (.int m), .dat (.int a), .dat (.int b), .emp] w
          = .ok (([] : List D) ++ (ns.filter fun _ => true).map fun d => .bl (rowB m a d)) [.dat (.tup ns), .dat (.int m), .dat (.int a), .dat (.int b), .emp] w := by
        refine lc_pure (fun _ => true) (fun d => .bl (rowB m a d)) (fun d => [.dat (.tup ns), .dat (.int m), .dat (.int a), .dat (.int b), .dat d]) rfl (fun d _ => rfl) (fun d _ => by simp only [exSs_cons, exSs_nil, exS_ret, exS_retN, exS_asg, exS_asgO, exS_asgT, exS_par2, exS_ex, exS_ifs, exS_for, for_nil, for_cons, fo_some, fr_nx, fr_rt, as_nm, as_tup, ev_var, ev_con, ev_bin, ev_cmp, ev_chain, ev_nt, ev_and, ev_or, ev_ife, ev_tup, ev_lst, ev_dnew, ev_sub, ev_slc, ev_rev, ev_call, ev_callK, ev_b1, ev_mut, ev_isi, evs_nil, evs_cons, evO_nil, evO_one, evT_and, evT_or, evT_nt, evI_val, evI_range1, evTs_nil, evTs_one, q_bind, q_bindS, q_of, q_at, q_rw, q_seq_nx, q_seq_rt, q_var, vd_dat, vd_own, q_rd, rdo_dat, rdo_own, q_brw_var, thV_some, twV_some, q_two_var, q_and, q_or, q_chain, q_callD, q_callKD, kiR_some, q_b1F, q_b1, q_isi, q_mut, q_ownK, oko_own, kindD, q_mutD, mdo_own, mdr_some, g_fn, g_ki, g_tru, g_cmp, g_bin, gg_get, g_slc, g_rev, g_it, g_isi_int, g_isi_bool, g_isi_str, g_isi_tuple, g_isi_list, g_bF_len, g_bF_repr, g_bF_max, g_bF_str, g_bF_int, g_bF_tuple, g_bF_all, g_bF_any, g_bF_list, g_b1_len, g_b1_repr, g_b1_max, g_b1_str, g_b1_int, g_b1_tuple, g_b1_all, g_mu_append, k_tbl, c_eqI, c_neI, c_ltI, c_gtI, c_geI, c_leI, c_eqL, c_neL, c_eqT, c_neT, c_isB, c_notB, c_eqS, ownD, asgL, t_bl, t_non, t_lst, t_tup, n_str, n_lst, n_tup, tu_lst, li_tup, li_lst, i_int, i1_int, it_lst, it_tup, rv_tup, at_tup, o_some, g_tupL, g_lstL, sl_tup, b_addI, b_subI, b_addB, b_subB, b_subIB, bw_con, tw_con, et_con, bw_glob, tw_glob, et_glob, bw_bin, tw_bin, et_bin, bw_neg, tw_neg, et_neg, bw_nt, tw_nt, bw_and, tw_and, bw_or, tw_or, bw_cmp, tw_cmp, et_cmp, bw_chain, tw_chain, et_chain, bw_ife, tw_ife, et_ife, bw_tup, tw_tup, et_tup, bw_lst, tw_lst, et_lst, bw_dnew, tw_dnew, et_dnew, bw_sub, tw_sub, et_sub, bw_slc, tw_slc, et_slc, bw_rev, tw_rev, et_rev, bw_call, tw_call, et_call, bw_callK, tw_callK, et_callK, bw_b1, tw_b1, et_b1, bw_mth, tw_mth, et_mth, bw_mut, tw_mut, et_mut, bw_isi, tw_isi, et_isi, bw_lc, tw_lc, et_lc, bw_sset, tw_sset, et_sset, et_var, List.getElem?_cons_zero, List.getElem?_cons_succ, List.set_cons_zero, List.set_cons_succ, List.length_cons, List.length_nil, Option.map_some, if_true, if_false, Bool.false_eq_true, Nat.zero_add, Nat.reduceAdd, Nat.reduceLT, Nat.reduceLeDiff, List.zip_cons_cons, List.zip_nil_left, List.zip_nil_right, List.foldl_cons, List.foldl_nil, Bool.not_true, Bool.not_false, decide_true, decide_false]) (fun d hd _ => ?_) (fun d _ => rfl) (by simpa using hn2)
        simp only [exSs_cons, exSs_nil, exS_ret, exS_retN, exS_asg, exS_asgO, exS_asgT, exS_par2, exS_ex, exS_ifs, exS_for, for_nil, for_cons, fo_some, fr_nx, fr_rt, as_nm, as_tup, ev_var, ev_con, ev_bin, ev_cmp, ev_chain, ev_nt, ev_and, ev_or, ev_ife, ev_tup, ev_lst, ev_dnew, ev_sub, ev_slc, ev_rev, ev_call, ev_callK, ev_b1, ev_mut, ev_isi, evs_nil, evs_cons, evO_nil, evO_one, evT_and, evT_or, evT_nt, evI_val, evI_range1, evTs_nil, evTs_one, q_bind, q_bindS, q_of, q_at, q_rw, q_seq_nx, q_seq_rt, q_var, vd_dat, vd_own, q_rd, rdo_dat, rdo_own, q_brw_var, thV_some, twV_some, q_two_var, q_and, q_or, q_chain, q_callD, q_callKD, kiR_some, q_b1F, q_b1, q_isi, q_mut, q_ownK, oko_own, kindD, q_mutD, mdo_own, mdr_some, g_fn, g_ki, g_tru, g_cmp, g_bin, gg_get, g_slc, g_rev, g_it, g_isi_int, g_isi_bool, g_isi_str, g_isi_tuple, g_isi_list, g_bF_len, g_bF_repr, g_bF_max, g_bF_str, g_bF_int, g_bF_tuple, g_bF_all, g_bF_any, g_bF_list, g_b1_len, g_b1_repr, g_b1_max, g_b1_str, g_b1_int, g_b1_tuple, g_b1_all, g_mu_append, k_tbl, c_eqI, c_neI, c_ltI, c_gtI, c_geI, c_leI, c_eqL, c_neL, c_eqT, c_neT, c_isB, c_notB, c_eqS, ownD, asgL, t_bl, t_non, t_lst, t_tup, n_str, n_lst, n_tup, tu_lst, li_tup, li_lst, i_int, i1_int, it_lst, it_tup, rv_tup, at_tup, o_some, g_tupL, g_lstL, sl_tup, b_addI, b_subI, b_addB, b_subB, b_subIB, bw_con, tw_con, et_con, bw_glob, tw_glob, et_glob, bw_bin, tw_bin, et_bin, bw_neg, tw_neg, et_neg, bw_nt, tw_nt, bw_and, tw_and, bw_or, tw_or, bw_cmp, tw_cmp, et_cmp, bw_chain, tw_chain, et_chain, bw_ife, tw_ife, et_ife, bw_tup, tw_tup, et_tup, bw_lst, tw_lst, et_lst, bw_dnew, tw_dnew, et_dnew, bw_sub, tw_sub, et_sub, bw_slc, tw_slc, et_slc, bw_rev, tw_rev, et_rev, bw_call, tw_call, et_call, bw_callK, tw_callK, et_callK, bw_b1, tw_b1, et_b1, bw_mth, tw_mth, et_mth, bw_mut, tw_mut, et_mut, bw_isi, tw_isi, et_isi, bw_lc, tw_lc, et_lc, bw_sset, tw_sset, et_sset, et_var, List.getElem?_cons_zero, List.getElem?_cons_succ, List.set_cons_zero, List.set_cons_succ, List.length_cons, List.length_nil, Option.map_some, if_true, if_false, Bool.false_eq_true, Nat.zero_add, Nat.reduceAdd, Nat.reduceLT, Nat.reduceLeDiff, List.zip_cons_cons, List.zip_nil_left, List.zip_nil_right, List.foldl_cons, List.foldl_nil, Bool.not_true, Bool.not_false, decide_true, decide_false, fl_hit, is_row_eq m a d w (h d hd) (Nat.le_trans (sz_mem hd) hn)]
      simp only [exSs_cons, exSs_nil, exS_ret, exS_retN, exS_asg, exS_asgO, exS_asgT, exS_par2, exS_ex, exS_ifs, exS_for, for_nil, for_cons, fo_some, fr_nx, fr_rt, as_nm, as_tup, ev_var, ev_con, ev_bin, ev_cmp, ev_chain, ev_nt, ev_and, ev_or, ev_ife, ev_tup, ev_lst, ev_dnew, ev_sub, ev_slc, ev_rev, ev_call, ev_callK, ev_b1, ev_mut, ev_isi, evs_nil, evs_cons, evO_nil, evO_one, evT_and, evT_or, evT_nt, evI_val, evI_range1, evTs_nil, evTs_one, q_bind, q_bindS, q_of, q_at, q_rw, q_seq_nx, q_seq_rt, q_var, vd_dat, vd_own, q_rd, rdo_dat, rdo_own, q_brw_var, thV_some, twV_some, q_two_var, q_and, q_or, q_chain, q_callD, q_callKD, kiR_some, q_b1F, q_b1, q_isi, q_mut, q_ownK, oko_own, kindD, q_mutD, mdo_own, mdr_some, g_fn, g_ki, g_tru, g_cmp, g_bin, gg_get, g_slc, g_rev, g_it, g_isi_int, g_isi_bool, g_isi_str, g_isi_tuple, g_isi_list, g_bF_len, g_bF_repr, g_bF_max, g_bF_str, g_bF_int, g_bF_tuple, g_bF_all, g_bF_any, g_bF_list, g_b1_len, g_b1_repr, g_b1_max, g_b1_str, g_b1_int, g_b1_tuple, g_b1_all, g_mu_append, k_tbl, c_eqI, c_neI, c_ltI, c_gtI, c_geI, c_leI, c_eqL, c_neL, c_eqT, c_neT, c_isB, c_notB, c_eqS, ownD, asgL, t_bl, t_non, t_lst, t_tup, n_str, n_lst, n_tup, tu_lst, li_tup, li_lst, i_int, i1_int, it_lst, it_tup, rv_tup, at_tup, o_some, g_tupL, g_lstL, sl_tup, b_addI, b_subI, b_addB, b_subB, b_subIB, bw_con, tw_con, et_con, bw_glob, tw_glob, et_glob, bw_bin, tw_bin, et_bin, bw_neg, tw_neg, et_neg, bw_nt, tw_nt, bw_and, tw_and, bw_or, tw_or, bw_cmp, tw_cmp, et_cmp, bw_chain, tw_chain, et_chain, bw_ife, tw_ife, et_ife, bw_tup, tw_tup, et_tup, bw_lst, tw_lst, et_lst, bw_dnew, tw_dnew, et_dnew, bw_sub, tw_sub, et_sub, bw_slc, tw_slc, et_slc, bw_rev, tw_rev, et_rev, bw_call, tw_call, et_call, bw_callK, tw_callK, et_callK, bw_b1, tw_b1, et_b1, bw_mth, tw_mth, et_mth, bw_mut, tw_mut, et_mut, bw_isi, tw_isi, et_isi, bw_lc, tw_lc, et_lc, bw_sset, tw_sset, et_sset, et_var, List.getElem?_cons_zero, List.getElem?_cons_succ, List.set_cons_zero, List.set_cons_succ, List.length_cons, List.length_nil, Option.map_some, if_true, if_false, Bool.false_eq_true, Nat.zero_add, Nat.reduceAdd, Nat.reduceLT, Nat.reduceLeDiff, List.zip_cons_cons, List.zip_nil_left, List.zip_nil_right, List.foldl_cons, List.foldl_nil, Bool.not_true, Bool.not_false, decide_true, decide_false, hk, tupB, ev_lc, List.map_cons, List.map_nil, hlc, all_map, tabB, ha, filt_true, List.nil_append, Bool.true_and]
    · simp only [exSs_cons, exSs_nil, exS_ret, exS_retN, exS_asg, exS_asgO, exS_asgT, exS_par2, exS_ex, exS_ifs, exS_for, for_nil, for_cons, fo_some, fr_nx, fr_rt, as_nm, as_tup, ev_var, ev_con, ev_bin, ev_cmp, ev_chain, ev_nt, ev_and, ev_or, ev_ife, ev_tup, ev_lst, ev_dnew, ev_sub, ev_slc, ev_rev, ev_call, ev_callK, ev_b1, ev_mut, ev_isi, evs_nil, evs_cons, evO_nil, evO_one, evT_and, evT_or, evT_nt, evI_val, evI_range1, evTs_nil, evTs_one, q_bind, q_bindS, q_of, q_at, q_rw, q_seq_nx, q_seq_rt, q_var, vd_dat, vd_own, q_rd, rdo_dat, rdo_own, q_brw_var, thV_some, twV_some, q_two_var, q_and, q_or, q_chain, q_callD, q_callKD, kiR_some, q_b1F, q_b1, q_isi, q_mut, q_ownK, oko_own, kindD, q_mutD, mdo_own, mdr_some, g_fn, g_ki, g_tru, g_cmp, g_bin, gg_get, g_slc, g_rev, g_it, g_isi_int, g_isi_bool, g_isi_str, g_isi_tuple, g_isi_list, g_bF_len, g_bF_repr, g_bF_max, g_bF_str, g_bF_int, g_bF_tuple, g_bF_all, g_bF_any, g_bF_list, g_b1_len, g_b1_repr, g_b1_max, g_b1_str, g_b1_int, g_b1_tuple, g_b1_all, g_mu_append, k_tbl, c_eqI, c_neI, c_ltI, c_gtI, c_geI, c_leI, c_eqL, c_neL, c_eqT, c_neT, c_isB, c_notB, c_eqS, ownD, asgL, t_bl, t_non, t_lst, t_tup, n_str, n_lst, n_tup, tu_lst, li_tup, li_lst, i_int, i1_int, it_lst, it_tup, rv_tup, at_tup, o_some, g_tupL, g_lstL, sl_tup, b_addI, b_subI, b_addB, b_subB, b_subIB, bw_con, tw_con, et_con, bw_glob, tw_glob, et_glob, bw_bin, tw_bin, et_bin, bw_neg, tw_neg, et_neg, bw_nt, tw_nt, bw_and, tw_and, bw_or, tw_or, bw_cmp, tw_cmp, et_cmp, bw_chain, tw_chain, et_chain, bw_ife, tw_ife, et_ife, bw_tup, tw_tup, et_tup, bw_lst, tw_lst, et_lst, bw_dnew, tw_dnew, et_dnew, bw_sub, tw_sub, et_sub, bw_slc, tw_slc, et_slc, bw_rev, tw_rev, et_rev, bw_call, tw_call, et_call, bw_callK, tw_callK, et_callK, bw_b1, tw_b1, et_b1, bw_mth, tw_mth, et_mth, bw_mut, tw_mut, et_mut, bw_isi, tw_isi, et_isi, bw_lc, tw_lc, et_lc, bw_sset, tw_sset, et_sset, et_var, List.getElem?_cons_zero, List.getElem?_cons_succ, List.set_cons_zero, List.set_cons_succ, List.length_cons, List.length_nil, Option.map_some, if_true, if_false, Bool.false_eq_true, Nat.zero_add, Nat.reduceAdd, Nat.reduceLT, Nat.reduceLeDiff, List.zip_cons_cons, List.zip_nil_left, List.zip_nil_right, List.foldl_cons, List.foldl_nil, Bool.not_true, Bool.not_false, decide_true, decide_false, hk, tupB, tabB, ha, Bool.false_and]
  all_goals simp only [exSs_cons, exSs_nil, exS_ret, exS_retN, exS_asg, exS_asgO, exS_asgT, exS_par2, exS_ex, exS_ifs, exS_for, for_nil, for_cons, fo_some, fr_nx, fr_rt, as_nm, as_tup, ev_var, ev_con, ev_bin, ev_cmp, ev_chain, ev_nt, ev_and, ev_or, ev_ife, ev_tup, ev_lst, ev_dnew, ev_sub, ev_slc, ev_rev, ev_call, ev_callK, ev_b1, ev_mut, ev_isi, evs_nil, evs_cons, evO_nil, evO_one, evT_and, evT_or, evT_nt, evI_val, evI_range1, evTs_nil, evTs_one, q_bind, q_bindS, q_of, q_at, q_rw, q_seq_nx, q_seq_rt, q_var, vd_dat, vd_own, q_rd, rdo_dat, rdo_own, q_brw_var, thV_some, twV_some, q_two_var, q_and, q_or, q_chain, q_callD, q_callKD, kiR_some, q_b1F, q_b1, q_isi, q_mut, q_ownK, oko_own, kindD, q_mutD, mdo_own, mdr_some, g_fn, g_ki, g_tru, g_cmp, g_bin, gg_get, g_slc, g_rev, g_it, g_isi_int, g_isi_bool, g_isi_str, g_isi_tuple, g_isi_list, g_bF_len, g_bF_repr, g_bF_max, g_bF_str, g_bF_int, g_bF_tuple, g_bF_all, g_bF_any, g_bF_list, g_b1_len, g_b1_repr, g_b1_max, g_b1_str, g_b1_int, g_b1_tuple, g_b1_all, g_mu_append, k_tbl, c_eqI, c_neI, c_ltI, c_gtI, c_geI, c_leI, c_eqL, c_neL, c_eqT, c_neT, c_isB, c_notB, c_eqS, ownD, asgL, t_bl, t_non, t_lst, t_tup, n_str, n_lst, n_tup, tu_lst, li_tup, li_lst, i_int, i1_int, it_lst, it_tup, rv_tup, at_tup, o_some, g_tupL, g_lstL, sl_tup, b_addI, b_subI, b_addB, b_subB, b_subIB, bw_con, tw_con, et_con, bw_glob, tw_glob, et_glob, bw_bin, tw_bin, et_bin, bw_neg, tw_neg, et_neg, bw_nt, tw_nt, bw_and, tw_and, bw_or, tw_or, bw_cmp, tw_cmp, et_cmp, bw_chain, tw_chain, et_chain, bw_ife, tw_ife, et_ife, bw_tup, tw_tup, et_tup, bw_lst, tw_lst, et_lst, bw_dnew, tw_dnew, et_dnew, bw_sub, tw_sub, et_sub, bw_slc, tw_slc, et_slc, bw_rev, tw_rev, et_rev, bw_call, tw_call, et_call, bw_callK, tw_callK, et_callK, bw_b1, tw_b1, et_b1, bw_mth, tw_mth, et_mth, bw_mut, tw_mut, et_mut, bw_isi, tw_isi, et_isi, bw_lc, tw_lc, et_lc, bw_sset, tw_sset, et_sset, et_var, List.getElem?_cons_zero, List.getElem?_cons_succ, List.set_cons_zero, List.set_cons_succ, List.length_cons, List.length_nil, Option.map_some, if_true, if_false, Bool.false_eq_true, Nat.zero_add, Nat.reduceAdd, Nat.reduceLT, Nat.reduceLeDiff, List.zip_cons_cons, List.zip_nil_left, List.zip_nil_right, List.foldl_cons, List.foldl_nil, Bool.not_true, Bool.not_false, decide_true, decide_false, hk, tupB, tabB]
theorem d44 : decide (((4 : Nat) : Int) = 4) = true := by decide
def F_is_colouring : Fn := runB (stdG (fl [("is_int", F_is_int), ("is_table", F_is_table)]) ki0) b_is_colouring 2 7
theorem miss1 {F : Fn} {l : List (Str × Fn)} : fl (("is_int", F) :: l) "is_table" = fl l "is_table" := fl_miss (by decide)
theorem is_colouring_eq (s : Str) (d : D) (w : DW) (h : lv d = true) (hs : sz d ≤ 100000) : F_is_colouring [.str s, d] w = .ok (.bl (colB s.length d)) w := by
  refine q_run rfl ?_
  show exSs _ b_is_colouring [.dat (.str s), .dat d, .emp, .emp, .emp, .emp, .emp] w = _
  unfold b_is_colouring
  have hk := k_tuple (lv_okT h)
  cases d <;> first | (exact absurd h Bool.false_ne_true) | skip
  case tup ns =>
    rw [lv] at h
    have hn : szs ns ≤ 100000 := by
      simp only [sz] at hs
      omega
    by_cases hl : ns.length = 4
    · match ns, hl, h, hn, hk with
      | [m, a, b, t], hl4, h, hn, hk =>
        clear hl4
        simp only [lvs, Bool.and_eq_true] at h
        obtain ⟨h1, h2, h3, h4, _⟩ := h
        have z1 : ∀ w, F_is_int [m] w = .ok (.bl (isI m)) w := fun w => is_int_eq m w (lv_okT h1)
        have z2 : ∀ w, F_is_int [a] w = .ok (.bl (isI a)) w := fun w => is_int_eq a w (lv_okT h2)
        have z3 : ∀ w, F_is_int [b] w = .ok (.bl (isI b)) w := fun w => is_int_eq b w (lv_okT h3)
        simp only [exSs_cons, exSs_nil, exS_ret, exS_retN, exS_asg, exS_asgO, exS_asgT, exS_par2, exS_ex, exS_ifs, exS_for, for_nil, for_cons, fo_some, fr_nx, fr_rt, as_nm, as_tup, ev_var, ev_con, ev_bin, ev_cmp, ev_chain, ev_nt, ev_and, ev_or, ev_ife, ev_tup, ev_lst, ev_dnew, ev_sub, ev_slc, ev_rev, ev_call, ev_callK, ev_b1, ev_mut, ev_isi, evs_nil, evs_cons, evO_nil, evO_one, evT_and, evT_or, evT_nt, evI_val, evI_range1, evTs_nil, evTs_one, q_bind, q_bindS, q_of, q_at, q_rw, q_seq_nx, q_seq_rt, q_var, vd_dat, vd_own, q_rd, rdo_dat, rdo_own, q_brw_var, thV_some, twV_some, q_two_var, q_and, q_or, q_chain, q_callD, q_callKD, kiR_some, q_b1F, q_b1, q_isi, q_mut, q_ownK, oko_own, kindD, q_mutD, mdo_own, mdr_some, g_fn, g_ki, g_tru, g_cmp, g_bin, gg_get, g_slc, g_rev, g_it, g_isi_int, g_isi_bool, g_isi_str, g_isi_tuple, g_isi_list, g_bF_len, g_bF_repr, g_bF_max, g_bF_str, g_bF_int, g_bF_tuple, g_bF_all, g_bF_any, g_bF_list, g_b1_len, g_b1_repr, g_b1_max, g_b1_str, g_b1_int, g_b1_tuple, g_b1_all, g_mu_append, k_tbl, c_eqI, c_neI, c_ltI, c_gtI, c_geI, c_leI, c_eqL, c_neL, c_eqT, c_neT, c_isB, c_notB, c_eqS, ownD, asgL, t_bl, t_non, t_lst, t_tup, n_str, n_lst, n_tup, tu_lst, li_tup, li_lst, i_int, i1_int, it_lst, it_tup, rv_tup, at_tup, o_some, g_tupL, g_lstL, sl_tup, b_addI, b_subI, b_addB, b_subB, b_subIB, bw_con, tw_con, et_con, bw_glob, tw_glob, et_glob, bw_bin, tw_bin, et_bin, bw_neg, tw_neg, et_neg, bw_nt, tw_nt, bw_and, tw_and, bw_or, tw_or, bw_cmp, tw_cmp, et_cmp, bw_chain, tw_chain, et_chain, bw_ife, tw_ife, et_ife, bw_tup, tw_tup, et_tup, bw_lst, tw_lst, et_lst, bw_dnew, tw_dnew, et_dnew, bw_sub, tw_sub, et_sub, bw_slc, tw_slc, et_slc, bw_rev, tw_rev, et_rev, bw_call, tw_call, et_call, bw_callK, tw_callK, et_callK, bw_b1, tw_b1, et_b1, bw_mth, tw_mth, et_mth, bw_mut, tw_mut, et_mut, bw_isi, tw_isi, et_isi, bw_lc, tw_lc, et_lc, bw_sset, tw_sset, et_sset, et_var, List.getElem?_cons_zero, List.getElem?_cons_succ, List.set_cons_zero, List.set_cons_succ, List.length_cons, List.length_nil, Option.map_some, if_true, if_false, Bool.false_eq_true, Nat.zero_add, Nat.reduceAdd, Nat.reduceLT, Nat.reduceLeDiff, List.zip_cons_cons, List.zip_nil_left, List.zip_nil_right, List.foldl_cons, List.foldl_nil, Bool.not_true, Bool.not_false, decide_true, decide_false, hk, tupB, z1, z2, z3, fl_hit, d44]
        cases m <;> simp only [exSs_cons, exSs_nil, exS_ret, exS_retN, exS_asg, exS_asgO, exS_asgT, exS_par2, exS_ex, exS_ifs, exS_for, for_nil, for_cons, fo_some, fr_nx, fr_rt, as_nm, as_tup, ev_var, ev_con, ev_bin, ev_cmp, ev_chain, ev_nt, ev_and, ev_or, ev_ife, ev_tup, ev_lst, ev_dnew, ev_sub, ev_slc, ev_rev, ev_call, ev_callK, ev_b1, ev_mut, ev_isi, evs_nil, evs_cons, evO_nil, evO_one, evT_and, evT_or, evT_nt, evI_val, evI_range1, evTs_nil, evTs_one, q_bind, q_bindS, q_of, q_at, q_rw, q_seq_nx, q_seq_rt, q_var, vd_dat, vd_own, q_rd, rdo_dat, rdo_own, q_brw_var, thV_some, twV_some, q_two_var, q_and, q_or, q_chain, q_callD, q_callKD, kiR_some, q_b1F, q_b1, q_isi, q_mut, q_ownK, oko_own, kindD, q_mutD, mdo_own, mdr_some, g_fn, g_ki, g_tru, g_cmp, g_bin, gg_get, g_slc, g_rev, g_it, g_isi_int, g_isi_bool, g_isi_str, g_isi_tuple, g_isi_list, g_bF_len, g_bF_repr, g_bF_max, g_bF_str, g_bF_int, g_bF_tuple, g_bF_all, g_bF_any, g_bF_list, g_b1_len, g_b1_repr, g_b1_max, g_b1_str, g_b1_int, g_b1_tuple, g_b1_all, g_mu_append, k_tbl, c_eqI, c_neI, c_ltI, c_gtI, c_geI, c_leI, c_eqL, c_neL, c_eqT, c_neT, c_isB, c_notB, c_eqS, ownD, asgL, t_bl, t_non, t_lst, t_tup, n_str, n_lst, n_tup, tu_lst, li_tup, li_lst, i_int, i1_int, it_lst, it_tup, rv_tup, at_tup, o_some, g_tupL, g_lstL, sl_tup, b_addI, b_subI, b_addB, b_subB, b_subIB, bw_con, tw_con, et_con, bw_glob, tw_glob, et_glob, bw_bin, tw_bin, et_bin, bw_neg, tw_neg, et_neg, bw_nt, tw_nt, bw_and, tw_and, bw_or, tw_or, bw_cmp, tw_cmp, et_cmp, bw_chain, tw_chain, et_chain, bw_ife, tw_ife, et_ife, bw_tup, tw_tup, et_tup, bw_lst, tw_lst, et_lst, bw_dnew, tw_dnew, et_dnew, bw_sub, tw_sub, et_sub, bw_slc, tw_slc, et_slc, bw_rev, tw_rev, et_rev, bw_call, tw_call, et_call, bw_callK, tw_callK, et_callK, bw_b1, tw_b1, et_b1, bw_mth, tw_mth, et_mth, bw_mut, tw_mut, et_mut, bw_isi, tw_isi, et_isi, bw_lc, tw_lc, et_lc, bw_sset, tw_sset, et_sset, et_var, List.getElem?_cons_zero, List.getElem?_cons_succ, List.set_cons_zero, List.set_cons_succ, List.length_cons, List.length_nil, Option.map_some, if_true, if_false, Bool.false_eq_true, Nat.zero_add, Nat.reduceAdd, Nat.reduceLT, Nat.reduceLeDiff, List.zip_cons_cons, List.zip_nil_left, List.zip_nil_right, List.foldl_cons, List.foldl_nil, Bool.not_true, Bool.not_false, decide_true, decide_false, isI, colB, d44, z2, fl_hit]
        case int m =>
        cases a <;> simp only [exSs_cons, exSs_nil, exS_ret, exS_retN, exS_asg, exS_asgO, exS_asgT, exS_par2, exS_ex, exS_ifs, exS_for, for_nil, for_cons, fo_some, fr_nx, fr_rt, as_nm, as_tup, ev_var, ev_con, ev_bin, ev_cmp, ev_chain, ev_nt, ev_and, ev_or, ev_ife, ev_tup, ev_lst, ev_dnew, ev_sub, ev_slc, ev_rev, ev_call, ev_callK, ev_b1, ev_mut, ev_isi, evs_nil, evs_cons, evO_nil, evO_one, evT_and, evT_or, evT_nt, evI_val, evI_range1, evTs_nil, evTs_one, q_bind, q_bindS, q_of, q_at, q_rw, q_seq_nx, q_seq_rt, q_var, vd_dat, vd_own, q_rd, rdo_dat, rdo_own, q_brw_var, thV_some, twV_some, q_two_var, q_and, q_or, q_chain, q_callD, q_callKD, kiR_some, q_b1F, q_b1, q_isi, q_mut, q_ownK, oko_own, kindD, q_mutD, mdo_own, mdr_some, g_fn, g_ki, g_tru, g_cmp, g_bin, gg_get, g_slc, g_rev, g_it, g_isi_int, g_isi_bool, g_isi_str, g_isi_tuple, g_isi_list, g_bF_len, g_bF_repr, g_bF_max, g_bF_str, g_bF_int, g_bF_tuple, g_bF_all, g_bF_any, g_bF_list, g_b1_len, g_b1_repr, g_b1_max, g_b1_str, g_b1_int, g_b1_tuple, g_b1_all, g_mu_append, k_tbl, c_eqI, c_neI, c_ltI, c_gtI, c_geI, c_leI, c_eqL, c_neL, c_eqT, c_neT, c_isB, c_notB, c_eqS, ownD, asgL, t_bl, t_non, t_lst, t_tup, n_str, n_lst, n_tup, tu_lst, li_tup, li_lst, i_int, i1_int, it_lst, it_tup, rv_tup, at_tup, o_some, g_tupL, g_lstL, sl_tup, b_addI, b_subI, b_addB, b_subB, b_subIB, bw_con, tw_con, et_con, bw_glob, tw_glob, et_glob, bw_bin, tw_bin, et_bin, bw_neg, tw_neg, et_neg, bw_nt, tw_nt, bw_and, tw_and, bw_or, tw_or, bw_cmp, tw_cmp, et_cmp, bw_chain, tw_chain, et_chain, bw_ife, tw_ife, et_ife, bw_tup, tw_tup, et_tup, bw_lst, tw_lst, et_lst, bw_dnew, tw_dnew, et_dnew, bw_sub, tw_sub, et_sub, bw_slc, tw_slc, et_slc, bw_rev, tw_rev, et_rev, bw_call, tw_call, et_call, bw_callK, tw_callK, et_callK, bw_b1, tw_b1, et_b1, bw_mth, tw_mth, et_mth, bw_mut, tw_mut, et_mut, bw_isi, tw_isi, et_isi, bw_lc, tw_lc, et_lc, bw_sset, tw_sset, et_sset, et_var, List.getElem?_cons_zero, List.getElem?_cons_succ, List.set_cons_zero, List.set_cons_succ, List.length_cons, List.length_nil, Option.map_some, if_true, if_false, Bool.false_eq_true, Nat.zero_add, Nat.reduceAdd, Nat.reduceLT, Nat.reduceLeDiff, List.zip_cons_cons, List.zip_nil_left, List.zip_nil_right, List.foldl_cons, List.foldl_nil, Bool.not_true, Bool.not_false, decide_true, decide_false, isI, colB, d44, z3, fl_hit]
        case int a =>
        cases b <;> simp only [exSs_cons, exSs_nil, exS_ret, exS_retN, exS_asg, exS_asgO, exS_asgT, exS_par2, exS_ex, exS_ifs, exS_for, for_nil, for_cons, fo_some, fr_nx, fr_rt, as_nm, as_tup, ev_var, ev_con, ev_bin, ev_cmp, ev_chain, ev_nt, ev_and, ev_or, ev_ife, ev_tup, ev_lst, ev_dnew, ev_sub, ev_slc, ev_rev, ev_call, ev_callK, ev_b1, ev_mut, ev_isi, evs_nil, evs_cons, evO_nil, evO_one, evT_and, evT_or, evT_nt, evI_val, evI_range1, evTs_nil, evTs_one, q_bind, q_bindS, q_of, q_at, q_rw, q_seq_nx, q_seq_rt, q_var, vd_dat, vd_own, q_rd, rdo_dat, rdo_own, q_brw_var, thV_some, twV_some, q_two_var, q_and, q_or, q_chain, q_callD, q_callKD, kiR_some, q_b1F, q_b1, q_isi, q_mut, q_ownK, oko_own, kindD, q_mutD, mdo_own, mdr_some, g_fn, g_ki, g_tru, g_cmp, g_bin, gg_get, g_slc, g_rev, g_it, g_isi_int, g_isi_bool, g_isi_str, g_isi_tuple, g_isi_list, g_bF_len, g_bF_repr, g_bF_max, g_bF_str, g_bF_int, g_bF_tuple, g_bF_all, g_bF_any, g_bF_list, g_b1_len, g_b1_repr, g_b1_max, g_b1_str, g_b1_int, g_b1_tuple, g_b1_all, g_mu_append, k_tbl, c_eqI, c_neI, c_ltI, c_gtI, c_geI, c_leI, c_eqL, c_neL, c_eqT, c_neT, c_isB, c_notB, c_eqS, ownD, asgL, t_bl, t_non, t_lst, t_tup, n_str, n_lst, n_tup, tu_lst, li_tup, li_lst, i_int, i1_int, it_lst, it_tup, rv_tup, at_tup, o_some, g_tupL, g_lstL, sl_tup, b_addI, b_subI, b_addB, b_subB, b_subIB, bw_con, tw_con, et_con, bw_glob, tw_glob, et_glob, bw_bin, tw_bin, et_bin, bw_neg, tw_neg, et_neg, bw_nt, tw_nt, bw_and, tw_and, bw_or, tw_or, bw_cmp, tw_cmp, et_cmp, bw_chain, tw_chain, et_chain, bw_ife, tw_ife, et_ife, bw_tup, tw_tup, et_tup, bw_lst, tw_lst, et_lst, bw_dnew, tw_dnew, et_dnew, bw_sub, tw_sub, et_sub, bw_slc, tw_slc, et_slc, bw_rev, tw_rev, et_rev, bw_call, tw_call, et_call, bw_callK, tw_callK, et_callK, bw_b1, tw_b1, et_b1, bw_mth, tw_mth, et_mth, bw_mut, tw_mut, et_mut, bw_isi, tw_isi, et_isi, bw_lc, tw_lc, et_lc, bw_sset, tw_sset, et_sset, et_var, List.getElem?_cons_zero, List.getElem?_cons_succ, List.set_cons_zero, List.set_cons_succ, List.length_cons, List.length_nil, Option.map_some, if_true, if_false, Bool.false_eq_true, Nat.zero_add, Nat.reduceAdd, Nat.reduceLT, Nat.reduceLeDiff, List.zip_cons_cons, List.zip_nil_left, List.zip_nil_right, List.foldl_cons, List.foldl_nil, Bool.not_true, Bool.not_false, decide_true, decide_false, isI, colB, d44, fl_hit]
        case int b =>
        have hf : ∀ x y : Int, x < y → decide (y ≤ x) = false := fun x y h => by simp; omega
        have ht : ∀ x y : Int, ¬ x < y → decide (y ≤ x) = true := fun x y h => by simp; omega
        by_cases c1 : m < 2
        · simp only [exSs_cons, exSs_nil, exS_ret, exS_retN, exS_asg, exS_asgO, exS_asgT, exS_par2, exS_ex, exS_ifs, exS_for, for_nil, for_cons, fo_some, fr_nx, fr_rt, as_nm, as_tup, ev_var, ev_con, ev_bin, ev_cmp, ev_chain, ev_nt, ev_and, ev_or, ev_ife, ev_tup, ev_lst, ev_dnew, ev_sub, ev_slc, ev_rev, ev_call, ev_callK, ev_b1, ev_mut, ev_isi, evs_nil, evs_cons, evO_nil, evO_one, evT_and, evT_or, evT_nt, evI_val, evI_range1, evTs_nil, evTs_one, q_bind, q_bindS, q_of, q_at, q_rw, q_seq_nx, q_seq_rt, q_var, vd_dat, vd_own, q_rd, rdo_dat, rdo_own, q_brw_var, thV_some, twV_some, q_two_var, q_and, q_or, q_chain, q_callD, q_callKD, kiR_some, q_b1F, q_b1, q_isi, q_mut, q_ownK, oko_own, kindD, q_mutD, mdo_own, mdr_some, g_fn, g_ki, g_tru, g_cmp, g_bin, gg_get, g_slc, g_rev, g_it, g_isi_int, g_isi_bool, g_isi_str, g_isi_tuple, g_isi_list, g_bF_len, g_bF_repr, g_bF_max, g_bF_str, g_bF_int, g_bF_tuple, g_bF_all, g_bF_any, g_bF_list, g_b1_len, g_b1_repr, g_b1_max, g_b1_str, g_b1_int, g_b1_tuple, g_b1_all, g_mu_append, k_tbl, c_eqI, c_neI, c_ltI, c_gtI, c_geI, c_leI, c_eqL, c_neL, c_eqT, c_neT, c_isB, c_notB, c_eqS, ownD, asgL, t_bl, t_non, t_lst, t_tup, n_str, n_lst, n_tup, tu_lst, li_tup, li_lst, i_int, i1_int, it_lst, it_tup, rv_tup, at_tup, o_some, g_tupL, g_lstL, sl_tup, b_addI, b_subI, b_addB, b_subB, b_subIB, bw_con, tw_con, et_con, bw_glob, tw_glob, et_glob, bw_bin, tw_bin, et_bin, bw_neg, tw_neg, et_neg, bw_nt, tw_nt, bw_and, tw_and, bw_or, tw_or, bw_cmp, tw_cmp, et_cmp, bw_chain, tw_chain, et_chain, bw_ife, tw_ife, et_ife, bw_tup, tw_tup, et_tup, bw_lst, tw_lst, et_lst, bw_dnew, tw_dnew, et_dnew, bw_sub, tw_sub, et_sub, bw_slc, tw_slc, et_slc, bw_rev, tw_rev, et_rev, bw_call, tw_call, et_call, bw_callK, tw_callK, et_callK, bw_b1, tw_b1, et_b1, bw_mth, tw_mth, et_mth, bw_mut, tw_mut, et_mut, bw_isi, tw_isi, et_isi, bw_lc, tw_lc, et_lc, bw_sset, tw_sset, et_sset, et_var, List.getElem?_cons_zero, List.getElem?_cons_succ, List.set_cons_zero, List.set_cons_succ, List.length_cons, List.length_nil, Option.map_some, if_true, if_false, Bool.false_eq_true, Nat.zero_add, Nat.reduceAdd, Nat.reduceLT, Nat.reduceLeDiff, List.zip_cons_cons, List.zip_nil_left, List.zip_nil_right, List.foldl_cons, List.foldl_nil, Bool.not_true, Bool.not_false, decide_true, decide_false, c1]
          cases t <;> simp only [colB, hf _ _ c1, Bool.false_and]
        by_cases c2 : a < 1
        · simp only [exSs_cons, exSs_nil, exS_ret, exS_retN, exS_asg, exS_asgO, exS_asgT, exS_par2, exS_ex, exS_ifs, exS_for, for_nil, for_cons, fo_some, fr_nx, fr_rt, as_nm, as_tup, ev_var, ev_con, ev_bin, ev_cmp, ev_chain, ev_nt, ev_and, ev_or, ev_ife, ev_tup, ev_lst, ev_dnew, ev_sub, ev_slc, ev_rev, ev_call, ev_callK, ev_b1, ev_mut, ev_isi, evs_nil, evs_cons, evO_nil, evO_one, evT_and, evT_or, evT_nt, evI_val, evI_range1, evTs_nil, evTs_one, q_bind, q_bindS, q_of, q_at, q_rw, q_seq_nx, q_seq_rt, q_var, vd_dat, vd_own, q_rd, rdo_dat, rdo_own, q_brw_var, thV_some, twV_some, q_two_var, q_and, q_or, q_chain, q_callD, q_callKD, kiR_some, q_b1F, q_b1, q_isi, q_mut, q_ownK, oko_own, kindD, q_mutD, mdo_own, mdr_some, g_fn, g_ki, g_tru, g_cmp, g_bin, gg_get, g_slc, g_rev, g_it, g_isi_int, g_isi_bool, g_isi_str, g_isi_tuple, g_isi_list, g_bF_len, g_bF_repr, g_bF_max, g_bF_str, g_bF_int, g_bF_tuple, g_bF_all, g_bF_any, g_bF_list, g_b1_len, g_b1_repr, g_b1_max, g_b1_str, g_b1_int, g_b1_tuple, g_b1_all, g_mu_append, k_tbl, c_eqI, c_neI, c_ltI, c_gtI, c_geI, c_leI, c_eqL, c_neL, c_eqT, c_neT, c_isB, c_notB, c_eqS, ownD, asgL, t_bl, t_non, t_lst, t_tup, n_str, n_lst, n_tup, tu_lst, li_tup, li_lst, i_int, i1_int, it_lst, it_tup, rv_tup, at_tup, o_some, g_tupL, g_lstL, sl_tup, b_addI, b_subI, b_addB, b_subB, b_subIB, bw_con, tw_con, et_con, bw_glob, tw_glob, et_glob, bw_bin, tw_bin, et_bin, bw_neg, tw_neg, et_neg, bw_nt, tw_nt, bw_and, tw_and, bw_or, tw_or, bw_cmp, tw_cmp, et_cmp, bw_chain, tw_chain, et_chain, bw_ife, tw_ife, et_ife, bw_tup, tw_tup, et_tup, bw_lst, tw_lst, et_lst, bw_dnew, tw_dnew, et_dnew, bw_sub, tw_sub, et_sub, bw_slc, tw_slc, et_slc, bw_rev, tw_rev, et_rev, bw_call, tw_call, et_call, bw_callK, tw_callK, et_callK, bw_b1, tw_b1, et_b1, bw_mth, tw_mth, et_mth, bw_mut, tw_mut, et_mut, bw_isi, tw_isi, et_isi, bw_lc, tw_lc, et_lc, bw_sset, tw_sset, et_sset, et_var, List.getElem?_cons_zero, List.getElem?_cons_succ, List.set_cons_zero, List.set_cons_succ, List.length_cons, List.length_nil, Option.map_some, if_true, if_false, Bool.false_eq_true, Nat.zero_add, Nat.reduceAdd, Nat.reduceLT, Nat.reduceLeDiff, List.zip_cons_cons, List.zip_nil_left, List.zip_nil_right, List.foldl_cons, List.foldl_nil, Bool.not_true, Bool.not_false, decide_true, decide_false, c1, c2]
          cases t <;> simp only [colB, hf _ _ c2, Bool.false_and, Bool.and_false]
        by_cases c3 : b < 1
        · simp only [exSs_cons, exSs_nil, exS_ret, exS_retN, exS_asg, exS_asgO, exS_asgT, exS_par2, exS_ex, exS_ifs, exS_for, for_nil, for_cons, fo_some, fr_nx, fr_rt, as_nm, as_tup, ev_var, ev_con, ev_bin, ev_cmp, ev_chain, ev_nt, ev_and, ev_or, ev_ife, ev_tup, ev_lst, ev_dnew, ev_sub, ev_slc, ev_rev, ev_call, ev_callK, ev_b1, ev_mut, ev_isi, evs_nil, evs_cons, evO_nil, evO_one, evT_and, evT_or, evT_nt, evI_val, evI_range1, evTs_nil, evTs_one, q_bind, q_bindS, q_of, q_at, q_rw, q_seq_nx, q_seq_rt, q_var, vd_dat, vd_own, q_rd, rdo_dat, rdo_own, q_brw_var, thV_some, twV_some, q_two_var, q_and, q_or, q_chain, q_callD, q_callKD, kiR_some, q_b1F, q_b1, q_isi, q_mut, q_ownK, oko_own, kindD, q_mutD, mdo_own, mdr_some, g_fn, g_ki, g_tru, g_cmp, g_bin, gg_get, g_slc, g_rev, g_it, g_isi_int, g_isi_bool, g_isi_str, g_isi_tuple, g_isi_list, g_bF_len, g_bF_repr, g_bF_max, g_bF_str, g_bF_int, g_bF_tuple, g_bF_all, g_bF_any, g_bF_list, g_b1_len, g_b1_repr, g_b1_max, g_b1_str, g_b1_int, g_b1_tuple, g_b1_all, g_mu_append, k_tbl, c_eqI, c_neI, c_ltI, c_gtI, c_geI, c_leI, c_eqL, c_neL, c_eqT, c_neT, c_isB, c_notB, c_eqS, ownD, asgL, t_bl, t_non, t_lst, t_tup, n_str, n_lst, n_tup, tu_lst, li_tup, li_lst, i_int, i1_int, it_lst, it_tup, rv_tup, at_tup, o_some, g_tupL, g_lstL, sl_tup, b_addI, b_subI, b_addB, b_subB, b_subIB, bw_con, tw_con, et_con, bw_glob, tw_glob, et_glob, bw_bin, tw_bin, et_bin, bw_neg, tw_neg, et_neg, bw_nt, tw_nt, bw_and, tw_and, bw_or, tw_or, bw_cmp, tw_cmp, et_cmp, bw_chain, tw_chain, et_chain, bw_ife, tw_ife, et_ife, bw_tup, tw_tup, et_tup, bw_lst, tw_lst, et_lst, bw_dnew, tw_dnew, et_dnew, bw_sub, tw_sub, et_sub, bw_slc, tw_slc, et_slc, bw_rev, tw_rev, et_rev, bw_call, tw_call, et_call, bw_callK, tw_callK, et_callK, bw_b1, tw_b1, et_b1, bw_mth, tw_mth, et_mth, bw_mut, tw_mut, et_mut, bw_isi, tw_isi, et_isi, bw_lc, tw_lc, et_lc, bw_sset, tw_sset, et_sset, et_var, List.getElem?_cons_zero, List.getElem?_cons_succ, List.set_cons_zero, List.set_cons_succ, List.length_cons, List.length_nil, Option.map_some, if_true, if_false, Bool.false_eq_true, Nat.zero_add, Nat.reduceAdd, Nat.reduceLT, Nat.reduceLeDiff, List.zip_cons_cons, List.zip_nil_left, List.zip_nil_right, List.foldl_cons, List.foldl_nil, Bool.not_true, Bool.not_false, decide_true, decide_false, c1, c2, c3]
          cases t <;> simp only [colB, hf _ _ c3, Bool.false_and, Bool.and_false]
        have ht4 := k_tuple (lv_okT h4)
        cases t <;> first | (exact absurd h4 Bool.false_ne_true) | skip
        case tup ts =>
          rw [lv, lvs_iff] at h4
          have hn1 : szs ts ≤ 100000 := by
            simp only [szs, sz] at hn
            omega
          have hn2 : ts.length ≤ 100000 := Nat.le_trans (szs_len ts) hn1
          by_cases ha : (ts.length : Int) = s.length
          · have hlc : lcD (.nm "table" 6) [6] (evTs (stdG (fl [("is_int", F_is_int), ("is_table", F_is_table)]) ki0) .nil) (ev (stdG (fl [("is_int", F_is_int), ("is_table", F_is_table)]) ki0) (.call "is_table" (.cons (.var "table" 6) (.cons (.var "m" 2) (.cons (.var "a" 3) (.cons (.var "b" 4) .nil)))))) ts [] [.dat (.str s), .dat (.tup [.int m, .int a, .int b, .tup ts]), .dat (.int m), .dat (.int a), .dat (.int b), .dat (.tup ts), .emp] w
              = .ok (([] : List D) ++ (ts.filter fun _ => true).map fun d => .bl (tabB m a b d)) [.dat (.str s), .dat (.tup [.int m, .int a, .int b, .tup ts]), .dat (.int m), .dat (.int a), .dat (.int b), .dat (.tup ts), .emp] w := by
              refine lc_pure (fun _ => true) (fun d => .bl (tabB m a b d)) (fun d => [.dat (.str s), .dat (.tup [.int m, .int a, .int b, .tup ts]), .dat (.int m), .dat (.int a), .dat (.int b), .dat (.tup ts), .dat d]) rfl (fun d _ => rfl) (fun d _ => by simp only [exSs_cons, exSs_nil, exS_ret, exS_retN, exS_asg, exS_asgO, exS_asgT, exS_par2, exS_ex, exS_ifs, exS_for, for_nil, for_cons, fo_some, fr_nx, fr_rt, as_nm, as_tup, ev_var, ev_con, ev_bin, ev_cmp, ev_chain, ev_nt, ev_and, ev_or, ev_ife, ev_tup, ev_lst, ev_dnew, ev_sub, ev_slc, ev_rev, ev_call, ev_callK, ev_b1, ev_mut, ev_isi, evs_nil, evs_cons, evO_nil, evO_one, evT_and, evT_or, evT_nt, evI_val, evI_range1, evTs_nil, evTs_one, q_bind, q_bindS, q_of, q_at, q_rw, q_seq_nx, q_seq_rt, q_var, vd_dat, vd_own, q_rd, rdo_dat, rdo_own, q_brw_var, thV_some, twV_some, q_two_var, q_and, q_or, q_chain, q_callD, q_callKD, kiR_some, q_b1F, q_b1, q_isi, q_mut, q_ownK, oko_own, kindD, q_mutD, mdo_own, mdr_some, g_fn, g_ki, g_tru, g_cmp, g_bin, gg_get, g_slc, g_rev, g_it, g_isi_int, g_isi_bool, g_isi_str, g_isi_tuple, g_isi_list, g_bF_len, g_bF_repr, g_bF_max, g_bF_str, g_bF_int, g_bF_tuple, g_bF_all, g_bF_any, g_bF_list, g_b1_len, g_b1_repr, g_b1_max, g_b1_str, g_b1_int, g_b1_tuple, g_b1_all, g_mu_append, k_tbl, c_eqI, c_neI, c_ltI, c_gtI, c_geI, c_leI, c_eqL, c_neL, c_eqT, c_neT, c_isB, c_notB, c_eqS, ownD, asgL, t_bl, t_non, t_lst, t_tup, n_str, n_lst, n_tup, tu_lst, li_tup, li_lst, i_int, i1_int, it_lst, it_tup, rv_tup, at_tup, o_some, g_tupL, g_lstL, sl_tup, b_addI, b_subI, b_addB, b_subB, b_subIB, bw_con, tw_con, et_con, bw_glob, tw_glob, et_glob, bw_bin, tw_bin, et_bin, bw_neg, tw_neg, et_neg, bw_nt, tw_nt, bw_and, tw_and, bw_or, tw_or, bw_cmp, tw_cmp, et_cmp, bw_chain, tw_chain, et_chain, bw_ife, tw_ife, et_ife, bw_tup, tw_tup, et_tup, bw_lst, tw_lst, et_lst, bw_dnew, tw_dnew, et_dnew, bw_sub, tw_sub, et_sub, bw_slc, tw_slc, et_slc, bw_rev, tw_rev, et_rev, bw_call, tw_call, et_call, bw_callK, tw_callK, et_callK, bw_b1, tw_b1, et_b1, bw_mth, tw_mth, et_mth, bw_mut, tw_mut, et_mut, bw_isi, tw_isi, et_isi, bw_lc, tw_lc, et_lc, bw_sset, tw_sset, et_sset, et_var, List.getElem?_cons_zero, List.getElem?_cons_succ, List.set_cons_zero, List.set_cons_succ, List.length_cons, List.length_nil, Option.map_some, if_true, if_false, Bool.false_eq_true, Nat.zero_add, Nat.reduceAdd, Nat.reduceLT, Nat.reduceLeDiff, List.zip_cons_cons, List.zip_nil_left, List.zip_nil_right, List.foldl_cons, List.foldl_nil, Bool.not_true, Bool.not_false, decide_true, decide_false]) (fun d hd _ => ?_) (fun d _ => rfl) (by simpa using hn2)
              simp only [exSs_cons, exSs_nil, exS_ret, exS_retN, exS_asg, exS_asgO, exS_asgT, exS_par2, exS_ex, exS_ifs, exS_for, for_nil, for_cons, fo_some, fr_nx, fr_rt, as_nm, as_tup, ev_var, ev_con, ev_bin, ev_cmp, ev_chain, ev_nt, ev_and, ev_or, ev_ife, ev_tup, ev_lst, ev_dnew, ev_sub, ev_slc, ev_rev, ev_call, ev_callK, ev_b1, ev_mut, ev_isi, evs_nil, evs_cons, evO_nil, evO_one, evT_and, evT_or, evT_nt, evI_val, evI_range1, evTs_nil, evTs_one, q_bind, q_bindS, q_of, q_at, q_rw, q_seq_nx, q_seq_rt, q_var, vd_dat, vd_own, q_rd, rdo_dat, rdo_own, q_brw_var, thV_some, twV_some, q_two_var, q_and, q_or, q_chain, q_callD, q_callKD, kiR_some, q_b1F, q_b1, q_isi, q_mut, q_ownK, oko_own, kindD, q_mutD, mdo_own, mdr_some, g_fn, g_ki, g_tru, g_cmp, g_bin, gg_get, g_slc, g_rev, g_it, g_isi_int, g_isi_bool, g_isi_str, g_isi_tuple, g_isi_list, g_bF_len, g_bF_repr, g_bF_max, g_bF_str, g_bF_int, g_bF_tuple, g_bF_all, g_bF_any, g_bF_list, g_b1_len, g_b1_repr, g_b1_max, g_b1_str, g_b1_int, g_b1_tuple, g_b1_all, g_mu_append, k_tbl, c_eqI, c_neI, c_ltI, c_gtI, c_geI, c_leI, c_eqL, c_neL, c_eqT, c_neT, c_isB, c_notB, c_eqS, ownD, asgL, t_bl, t_non, t_lst, t_tup, n_str, n_lst, n_tup, tu_lst, li_tup, li_lst, i_int, i1_int, it_lst, it_tup, rv_tup, at_tup, o_some, g_tupL, g_lstL, sl_tup, b_addI, b_subI, b_addB, b_subB, b_subIB, bw_con, tw_con, et_con, bw_glob, tw_glob, et_glob, bw_bin, tw_bin, et_bin, bw_neg, tw_neg, et_neg, bw_nt, tw_nt, bw_and, tw_and, bw_or, tw_or, bw_cmp, tw_cmp, et_cmp, bw_chain, tw_chain, et_chain, bw_ife, tw_ife, et_ife, bw_tup, tw_tup, et_tup, bw_lst, tw_lst, et_lst, bw_dnew, tw_dnew, et_dnew, bw_sub, tw_sub, et_sub, bw_slc, tw_slc, et_slc, bw_rev, tw_rev, et_rev, bw_call, tw_call, et_call, bw_callK, tw_callK, et_callK, bw_b1, tw_b1, et_b1, bw_mth, tw_mth, et_mth, bw_mut, tw_mut, et_mut, bw_isi, tw_isi, et_isi, bw_lc, tw_lc, et_lc, bw_sset, tw_sset, et_sset, et_var, List.getElem?_cons_zero, List.getElem?_cons_succ, List.set_cons_zero, List.set_cons_succ, List.length_cons, List.length_nil, Option.map_some, if_true, if_false, Bool.false_eq_true, Nat.zero_add, Nat.reduceAdd, Nat.reduceLT, Nat.reduceLeDiff, List.zip_cons_cons, List.zip_nil_left, List.zip_nil_right, List.foldl_cons, List.foldl_nil, Bool.not_true, Bool.not_false, decide_true, decide_false, fl_hit, miss1, is_table_eq m a b d w (h4 d hd) (Nat.le_trans (sz_mem hd) hn1)]
            simp only [exSs_cons, exSs_nil, exS_ret, exS_retN, exS_asg, exS_asgO, exS_asgT, exS_par2, exS_ex, exS_ifs, exS_for, for_nil, for_cons, fo_some, fr_nx, fr_rt, as_nm, as_tup, ev_var, ev_con, ev_bin, ev_cmp, ev_chain, ev_nt, ev_and, ev_or, ev_ife, ev_tup, ev_lst, ev_dnew, ev_sub, ev_slc, ev_rev, ev_call, ev_callK, ev_b1, ev_mut, ev_isi, evs_nil, evs_cons, evO_nil, evO_one, evT_and, evT_or, evT_nt, evI_val, evI_range1, evTs_nil, evTs_one, q_bind, q_bindS, q_of, q_at, q_rw, q_seq_nx, q_seq_rt, q_var, vd_dat, vd_own, q_rd, rdo_dat, rdo_own, q_brw_var, thV_some, twV_some, q_two_var, q_and, q_or, q_chain, q_callD, q_callKD, kiR_some, q_b1F, q_b1, q_isi, q_mut, q_ownK, oko_own, kindD, q_mutD, mdo_own, mdr_some, g_fn, g_ki, g_tru, g_cmp, g_bin, gg_get, g_slc, g_rev, g_it, g_isi_int, g_isi_bool, g_isi_str, g_isi_tuple, g_isi_list, g_bF_len, g_bF_repr, g_bF_max, g_bF_str, g_bF_int, g_bF_tuple, g_bF_all, g_bF_any, g_bF_list, g_b1_len, g_b1_repr, g_b1_max, g_b1_str, g_b1_int, g_b1_tuple, g_b1_all, g_mu_append, k_tbl, c_eqI, c_neI, c_ltI, c_gtI, c_geI, c_leI, c_eqL, c_neL, c_eqT, c_neT, c_isB, c_notB, c_eqS, ownD, asgL, t_bl, t_non, t_lst, t_tup, n_str, n_lst, n_tup, tu_lst, li_tup, li_lst, i_int, i1_int, it_lst, it_tup, rv_tup, at_tup, o_some, g_tupL, g_lstL, sl_tup, b_addI, b_subI, b_addB, b_subB, b_subIB, bw_con, tw_con, et_con, bw_glob, tw_glob, et_glob, bw_bin, tw_bin, et_bin, bw_neg, tw_neg, et_neg, bw_nt, tw_nt, bw_and, tw_and, bw_or, tw_or, bw_cmp, tw_cmp, et_cmp, bw_chain, tw_chain, et_chain, bw_ife, tw_ife, et_ife, bw_tup, tw_tup, et_tup, bw_lst, tw_lst, et_lst, bw_dnew, tw_dnew, et_dnew, bw_sub, tw_sub, et_sub, bw_slc, tw_slc, et_slc, bw_rev, tw_rev, et_rev, bw_call, tw_call, et_call, bw_callK, tw_callK, et_callK, bw_b1, tw_b1, et_b1, bw_mth, tw_mth, et_mth, bw_mut, tw_mut, et_mut, bw_isi, tw_isi, et_isi, bw_lc, tw_lc, et_lc, bw_sset, tw_sset, et_sset, et_var, List.getElem?_cons_zero, List.getElem?_cons_succ, List.set_cons_zero, List.set_cons_succ, List.length_cons, List.length_nil, Option.map_some, if_true, if_false, Bool.false_eq_true, Nat.zero_add, Nat.reduceAdd, Nat.reduceLT, Nat.reduceLeDiff, List.zip_cons_cons, List.zip_nil_left, List.zip_nil_right, List.foldl_cons, List.foldl_nil, Bool.not_true, Bool.not_false, decide_true, decide_false, c1, c2, c3, ht4, tupB, ev_lc, List.map_cons, List.map_nil, hlc, all_map, colB, ha, filt_true, List.nil_append, Bool.true_and, ht _ _ c1, ht _ _ c2, ht _ _ c3]
          · simp only [exSs_cons, exSs_nil, exS_ret, exS_retN, exS_asg, exS_asgO, exS_asgT, exS_par2, exS_ex, exS_ifs, exS_for, for_nil, for_cons, fo_some, fr_nx, fr_rt, as_nm, as_tup, ev_var, ev_con, ev_bin, ev_cmp, ev_chain, ev_nt, ev_and, ev_or, ev_ife, ev_tup, ev_lst, ev_dnew, ev_sub, ev_slc, ev_rev, ev_call, ev_callK, ev_b1, ev_mut, ev_isi, evs_nil, evs_cons, evO_nil, evO_one, evT_and, evT_or, evT_nt, evI_val, evI_range1, evTs_nil, evTs_one, q_bind, q_bindS, q_of, q_at, q_rw, q_seq_nx, q_seq_rt, q_var, vd_dat, vd_own, q_rd, rdo_dat, rdo_own, q_brw_var, thV_some, twV_some, q_two_var, q_and, q_or, q_chain, q_callD, q_callKD, kiR_some, q_b1F, q_b1, q_isi, q_mut, q_ownK, oko_own, kindD, q_mutD, mdo_own, mdr_some, g_fn, g_ki, g_tru, g_cmp, g_bin, gg_get, g_slc, g_rev, g_it, g_isi_int, g_isi_bool, g_isi_str, g_isi_tuple, g_isi_list, g_bF_len, g_bF_repr, g_bF_max, g_bF_str, g_bF_int, g_bF_tuple, g_bF_all, g_bF_any, g_bF_list, g_b1_len, g_b1_repr, g_b1_max, g_b1_str, g_b1_int, g_b1_tuple, g_b1_all, g_mu_append, k_tbl, c_eqI, c_neI, c_ltI, c_gtI, c_geI, c_leI, c_eqL, c_neL, c_eqT, c_neT, c_isB, c_notB, c_eqS, ownD, asgL, t_bl, t_non, t_lst, t_tup, n_str, n_lst, n_tup, tu_lst, li_tup, li_lst, i_int, i1_int, it_lst, it_tup, rv_tup, at_tup, o_some, g_tupL, g_lstL, sl_tup, b_addI, b_subI, b_addB, b_subB, b_subIB, bw_con, tw_con, et_con, bw_glob, tw_glob, et_glob, bw_bin, tw_bin, et_bin, bw_neg, tw_neg, et_neg, bw_nt, tw_nt, bw_and, tw_and, bw_or, tw_or, bw_cmp, tw_cmp, et_cmp, bw_chain, tw_chain, et_chain, bw_ife, tw_ife, et_ife, bw_tup, tw_tup, et_tup, bw_lst, tw_lst, et_lst, bw_dnew, tw_dnew, et_dnew, bw_sub, tw_sub, et_sub, bw_slc, tw_slc, et_slc, bw_rev, tw_rev, et_rev, bw_call, tw_call, et_call, bw_callK, tw_callK, et_callK, bw_b1, tw_b1, et_b1, bw_mth, tw_mth, et_mth, bw_mut, tw_mut, et_mut, bw_isi, tw_isi, et_isi, bw_lc, tw_lc, et_lc, bw_sset, tw_sset, et_sset, et_var, List.getElem?_cons_zero, List.getElem?_cons_succ, List.set_cons_zero, List.set_cons_succ, List.length_cons, List.length_nil, Option.map_some, if_true, if_false, Bool.false_eq_true, Nat.zero_add, Nat.reduceAdd, Nat.reduceLT, Nat.reduceLeDiff, List.zip_cons_cons, List.zip_nil_left, List.zip_nil_right, List.foldl_cons, List.foldl_nil, Bool.not_true, Bool.not_false, decide_true, decide_false, c1, c2, c3, ht4, tupB, colB, ha, Bool.and_false, Bool.false_and]
        all_goals simp only [exSs_cons, exSs_nil, exS_ret, exS_retN, exS_asg, exS_asgO, exS_asgT, exS_par2, exS_ex, exS_ifs, exS_for, for_nil, for_cons, fo_some, fr_nx, fr_rt, as_nm, as_tup, ev_var, ev_con, ev_bin, ev_cmp, ev_chain, ev_nt, ev_and, ev_or, ev_ife, ev_tup, ev_lst, ev_dnew, ev_sub, ev_slc, ev_rev, ev_call, ev_callK, ev_b1, ev_mut, ev_isi, evs_nil, evs_cons, evO_nil, evO_one, evT_and, evT_or, evT_nt, evI_val, evI_range1, evTs_nil, evTs_one, q_bind, q_bindS, q_of, q_at, q_rw, q_seq_nx, q_seq_rt, q_var, vd_dat, vd_own, q_rd, rdo_dat, rdo_own, q_brw_var, thV_some, twV_some, q_two_var, q_and, q_or, q_chain, q_callD, q_callKD, kiR_some, q_b1F, q_b1, q_isi, q_mut, q_ownK, oko_own, kindD, q_mutD, mdo_own, mdr_some, g_fn, g_ki, g_tru, g_cmp, g_bin, gg_get, g_slc, g_rev, g_it, g_isi_int, g_isi_bool, g_isi_str, g_isi_tuple, g_isi_list, g_bF_len, g_bF_repr, g_bF_max, g_bF_str, g_bF_int, g_bF_tuple, g_bF_all, g_bF_any, g_bF_list, g_b1_len, g_b1_repr, g_b1_max, g_b1_str, g_b1_int, g_b1_tuple, g_b1_all, g_mu_append, k_tbl, c_eqI, c_neI, c_ltI, c_gtI, c_geI, c_leI, c_eqL, c_neL, c_eqT, c_neT, c_isB, c_notB, c_eqS, ownD, asgL, t_bl, t_non, t_lst, t_tup, n_str, n_lst, n_tup, tu_lst, li_tup, li_lst, i_int, i1_int, it_lst, it_tup, rv_tup, at_tup, o_some, g_tupL, g_lstL, sl_tup, b_addI, b_subI, b_addB, b_subB, b_subIB, bw_con, tw_con, et_con, bw_glob, tw_glob, et_glob, bw_bin, tw_bin, et_bin, bw_neg, tw_neg, et_neg, bw_nt, tw_nt, bw_and, tw_and, bw_or, tw_or, bw_cmp, tw_cmp, et_cmp, bw_chain, tw_chain, et_chain, bw_ife, tw_ife, et_ife, bw_tup, tw_tup, et_tup, bw_lst, tw_lst, et_lst, bw_dnew, tw_dnew, et_dnew, bw_sub, tw_sub, et_sub, bw_slc, tw_slc, et_slc, bw_rev, tw_rev, et_rev, bw_call, tw_call, et_call, bw_callK, tw_callK, et_callK, bw_b1, tw_b1, et_b1, bw_mth, tw_mth, et_mth, bw_mut, tw_mut, et_mut, bw_isi, tw_isi, et_isi, bw_lc, tw_lc, et_lc, bw_sset, tw_sset, et_sset, et_var, List.getElem?_cons_zero, List.getElem?_cons_succ, List.set_cons_zero, List.set_cons_succ, List.length_cons, List.length_nil, Option.map_some, if_true, if_false, Bool.false_eq_true, Nat.zero_add, Nat.reduceAdd, Nat.reduceLT, Nat.reduceLeDiff, List.zip_cons_cons, List.zip_nil_left, List.zip_nil_right, List.foldl_cons, List.foldl_nil, Bool.not_true, Bool.not_false, decide_true, decide_false, c1, c2, c3, ht4, tupB, colB]
    · have e4 : ((ns.length : Nat) : Int) ≠ 4 := by omega
      have e5 : colB s.length (.tup ns) = false := by
        unfold colB
        split
        · rename_i e
          cases e
          exact absurd rfl hl
        · rfl
      simp only [exSs_cons, exSs_nil, exS_ret, exS_retN, exS_asg, exS_asgO, exS_asgT, exS_par2, exS_ex, exS_ifs, exS_for, for_nil, for_cons, fo_some, fr_nx, fr_rt, as_nm, as_tup, ev_var, ev_con, ev_bin, ev_cmp, ev_chain, ev_nt, ev_and, ev_or, ev_ife, ev_tup, ev_lst, ev_dnew, ev_sub, ev_slc, ev_rev, ev_call, ev_callK, ev_b1, ev_mut, ev_isi, evs_nil, evs_cons, evO_nil, evO_one, evT_and, evT_or, evT_nt, evI_val, evI_range1, evTs_nil, evTs_one, q_bind, q_bindS, q_of, q_at, q_rw, q_seq_nx, q_seq_rt, q_var, vd_dat, vd_own, q_rd, rdo_dat, rdo_own, q_brw_var, thV_some, twV_some, q_two_var, q_and, q_or, q_chain, q_callD, q_callKD, kiR_some, q_b1F, q_b1, q_isi, q_mut, q_ownK, oko_own, kindD, q_mutD, mdo_own, mdr_some, g_fn, g_ki, g_tru, g_cmp, g_bin, gg_get, g_slc, g_rev, g_it, g_isi_int, g_isi_bool, g_isi_str, g_isi_tuple, g_isi_list, g_bF_len, g_bF_repr, g_bF_max, g_bF_str, g_bF_int, g_bF_tuple, g_bF_all, g_bF_any, g_bF_list, g_b1_len, g_b1_repr, g_b1_max, g_b1_str, g_b1_int, g_b1_tuple, g_b1_all, g_mu_append, k_tbl, c_eqI, c_neI, c_ltI, c_gtI, c_geI, c_leI, c_eqL, c_neL, c_eqT, c_neT, c_isB, c_notB, c_eqS, ownD, asgL, t_bl, t_non, t_lst, t_tup, n_str, n_lst, n_tup, tu_lst, li_tup, li_lst, i_int, i1_int, it_lst, it_tup, rv_tup, at_tup, o_some, g_tupL, g_lstL, sl_tup, b_addI, b_subI, b_addB, b_subB, b_subIB, bw_con, tw_con, et_con, bw_glob, tw_glob, et_glob, bw_bin, tw_bin, et_bin, bw_neg, tw_neg, et_neg, bw_nt, tw_nt, bw_and, tw_and, bw_or, tw_or, bw_cmp, tw_cmp, et_cmp, bw_chain, tw_chain, et_chain, bw_ife, tw_ife, et_ife, bw_tup, tw_tup, et_tup, bw_lst, tw_lst, et_lst, bw_dnew, tw_dnew, et_dnew, bw_sub, tw_sub, et_sub, bw_slc, tw_slc, et_slc, bw_rev, tw_rev, et_rev, bw_call, tw_call, et_call, bw_callK, tw_callK, et_callK, bw_b1, tw_b1, et_b1, bw_mth, tw_mth, et_mth, bw_mut, tw_mut, et_mut, bw_isi, tw_isi, et_isi, bw_lc, tw_lc, et_lc, bw_sset, tw_sset, et_sset, et_var, List.getElem?_cons_zero, List.getElem?_cons_succ, List.set_cons_zero, List.set_cons_succ, List.length_cons, List.length_nil, Option.map_some, if_true, if_false, Bool.false_eq_true, Nat.zero_add, Nat.reduceAdd, Nat.reduceLT, Nat.reduceLeDiff, List.zip_cons_cons, List.zip_nil_left, List.zip_nil_right, List.foldl_cons, List.foldl_nil, Bool.not_true, Bool.not_false, decide_true, decide_false, hk, tupB, e4, e5]
  all_goals simp only [exSs_cons, exSs_nil, exS_ret, exS_retN, exS_asg, exS_asgO, exS_asgT, exS_par2, exS_ex, exS_ifs, exS_for, for_nil, for_cons, fo_some, fr_nx, fr_rt, as_nm, as_tup, ev_var, ev_con, ev_bin, ev_cmp, ev_chain, ev_nt, ev_and, ev_or, ev_ife, ev_tup, ev_lst, ev_dnew, ev_sub, ev_slc, ev_rev, ev_call, ev_callK, ev_b1, ev_mut, ev_isi, evs_nil, evs_cons, evO_nil, evO_one, evT_and, evT_or, evT_nt, evI_val, evI_range1, evTs_nil, evTs_one, q_bind, q_bindS, q_of, q_at, q_rw, q_seq_nx, q_seq_rt, q_var, vd_dat, vd_own, q_rd, rdo_dat, rdo_own, q_brw_var, thV_some, twV_some, q_two_var, q_and, q_or, q_chain, q_callD, q_callKD, kiR_some, q_b1F, q_b1, q_isi, q_mut, q_ownK, oko_own, kindD, q_mutD, mdo_own, mdr_some, g_fn, g_ki, g_tru, g_cmp, g_bin, gg_get, g_slc, g_rev, g_it, g_isi_int, g_isi_bool, g_isi_str, g_isi_tuple, g_isi_list, g_bF_len, g_bF_repr, g_bF_max, g_bF_str, g_bF_int, g_bF_tuple, g_bF_all, g_bF_any, g_bF_list, g_b1_len, g_b1_repr, g_b1_max, g_b1_str, g_b1_int, g_b1_tuple, g_b1_all, g_mu_append, k_tbl, c_eqI, c_neI, c_ltI, c_gtI, c_geI, c_leI, c_eqL, c_neL, c_eqT, c_neT, c_isB, c_notB, c_eqS, ownD, asgL, t_bl, t_non, t_lst, t_tup, n_str, n_lst, n_tup, tu_lst, li_tup, li_lst, i_int, i1_int, it_lst, it_tup, rv_tup, at_tup, o_some, g_tupL, g_lstL, sl_tup, b_addI, b_subI, b_addB, b_subB, b_subIB, bw_con, tw_con, et_con, bw_glob, tw_glob, et_glob, bw_bin, tw_bin, et_bin, bw_neg, tw_neg, et_neg, bw_nt, tw_nt, bw_and, tw_and, bw_or, tw_or, bw_cmp, tw_cmp, et_cmp, bw_chain, tw_chain, et_chain, bw_ife, tw_ife, et_ife, bw_tup, tw_tup, et_tup, bw_lst, tw_lst, et_lst, bw_dnew, tw_dnew, et_dnew, bw_sub, tw_sub, et_sub, bw_slc, tw_slc, et_slc, bw_rev, tw_rev, et_rev, bw_call, tw_call, et_call, bw_callK, tw_callK, et_callK, bw_b1, tw_b1, et_b1, bw_mth, tw_mth, et_mth, bw_mut, tw_mut, et_mut, bw_isi, tw_isi, et_isi, bw_lc, tw_lc, et_lc, bw_sset, tw_sset, et_sset, et_var, List.getElem?_cons_zero, List.getElem?_cons_succ, List.set_cons_zero, List.set_cons_succ, List.length_cons, List.length_nil, Option.map_some, if_true, if_false, Bool.false_eq_true, Nat.zero_add, Nat.reduceAdd, Nat.reduceLT, Nat.reduceLeDiff, List.zip_cons_cons, List.zip_nil_left, List.zip_nil_right, List.foldl_cons, List.foldl_nil, Bool.not_true, Bool.not_false, decide_true, decide_false, hk, tupB, colB]
end DL.K17
set_option maxRecDepth 100000
set_option maxHeartbeats 4000000
set_option linter.all false
namespace DL.K17
open PySem PySem.Spec PyProof.Rows L2 DL
/-! ### the law's look -/
def F_whole : Fn := runB (stdG (fl []) ki0) b_l_is_whole 1 1
theorem whole_eq (d : D) (w : DW) (h : okT d = true) : F_whole [d] w = .ok (.bl (isI d)) w := by
  have e : isI d = (intB d && !blB d) := by cases d <;> rfl
  refine q_run rfl ?_
  show exSs _ b_l_is_whole [.dat d] w = _
  unfold b_l_is_whole
  simp only [exSs_cons, exSs_nil, exS_ret, exS_retN, exS_asg, exS_asgO, exS_asgT, exS_par2, exS_ex, exS_ifs, exS_for, for_nil, for_cons, fo_some, fr_nx, fr_rt, as_nm, as_tup, ev_var, ev_con, ev_bin, ev_cmp, ev_chain, ev_nt, ev_and, ev_or, ev_ife, ev_tup, ev_lst, ev_dnew, ev_sub, ev_slc, ev_rev, ev_call, ev_callK, ev_b1, ev_mut, ev_isi, evs_nil, evs_cons, evO_nil, evO_one, evT_and, evT_or, evT_nt, evI_val, evI_range1, evTs_nil, evTs_one, q_bind, q_bindS, q_of, q_at, q_rw, q_seq_nx, q_seq_rt, q_var, vd_dat, vd_own, q_rd, rdo_dat, rdo_own, q_brw_var, thV_some, twV_some, q_two_var, q_and, q_or, q_chain, q_callD, q_callKD, kiR_some, q_b1F, q_b1, q_isi, q_mut, q_ownK, oko_own, kindD, q_mutD, mdo_own, mdr_some, g_fn, g_ki, g_tru, g_cmp, g_bin, gg_get, g_slc, g_rev, g_it, g_isi_int, g_isi_bool, g_isi_str, g_isi_tuple, g_isi_list, g_bF_len, g_bF_repr, g_bF_max, g_bF_str, g_bF_int, g_bF_tuple, g_bF_all, g_bF_any, g_bF_list, g_b1_len, g_b1_repr, g_b1_max, g_b1_str, g_b1_int, g_b1_tuple, g_b1_all, g_mu_append, k_tbl, c_eqI, c_neI, c_ltI, c_gtI, c_geI, c_leI, c_eqL, c_neL, c_eqT, c_neT, c_isB, c_notB, c_eqS, ownD, asgL, t_bl, t_non, t_lst, t_tup, n_str, n_lst, n_tup, tu_lst, li_tup, li_lst, i_int, i1_int, it_lst, it_tup, rv_tup, at_tup, o_some, g_tupL, g_lstL, sl_tup, b_addI, b_subI, b_addB, b_subB, b_subIB, bw_con, tw_con, et_con, bw_glob, tw_glob, et_glob, bw_bin, tw_bin, et_bin, bw_neg, tw_neg, et_neg, bw_nt, tw_nt, bw_and, tw_and, bw_or, tw_or, bw_cmp, tw_cmp, et_cmp, bw_chain, tw_chain, et_chain, bw_ife, tw_ife, et_ife, bw_tup, tw_tup, et_tup, bw_lst, tw_lst, et_lst, bw_dnew, tw_dnew, et_dnew, bw_sub, tw_sub, et_sub, bw_slc, tw_slc, et_slc, bw_rev, tw_rev, et_rev, bw_call, tw_call, et_call, bw_callK, tw_callK, et_callK, bw_b1, tw_b1, et_b1, bw_mth, tw_mth, et_mth, bw_mut, tw_mut, et_mut, bw_isi, tw_isi, et_isi, bw_lc, tw_lc, et_lc, bw_sset, tw_sset, et_sset, et_var, List.getElem?_cons_zero, List.getElem?_cons_succ, List.set_cons_zero, List.set_cons_succ, List.length_cons, List.length_nil, Option.map_some, if_true, if_false, Bool.false_eq_true, Nat.zero_add, Nat.reduceAdd, Nat.reduceLT, Nat.reduceLeDiff, List.zip_cons_cons, List.zip_nil_left, List.zip_nil_right, List.foldl_cons, List.foldl_nil, Bool.not_true, Bool.not_false, decide_true, decide_false, k_int h, k_bool h]
  rw [e]
  cases intB d <;> simp only [exSs_cons, exSs_nil, exS_ret, exS_retN, exS_asg, exS_asgO, exS_asgT, exS_par2, exS_ex, exS_ifs, exS_for, for_nil, for_cons, fo_some, fr_nx, fr_rt, as_nm, as_tup, ev_var, ev_con, ev_bin, ev_cmp, ev_chain, ev_nt, ev_and, ev_or, ev_ife, ev_tup, ev_lst, ev_dnew, ev_sub, ev_slc, ev_rev, ev_call, ev_callK, ev_b1, ev_mut, ev_isi, evs_nil, evs_cons, evO_nil, evO_one, evT_and, evT_or, evT_nt, evI_val, evI_range1, evTs_nil, evTs_one, q_bind, q_bindS, q_of, q_at, q_rw, q_seq_nx, q_seq_rt, q_var, vd_dat, vd_own, q_rd, rdo_dat, rdo_own, q_brw_var, thV_some, twV_some, q_two_var, q_and, q_or, q_chain, q_callD, q_callKD, kiR_some, q_b1F, q_b1, q_isi, q_mut, q_ownK, oko_own, kindD, q_mutD, mdo_own, mdr_some, g_fn, g_ki, g_tru, g_cmp, g_bin, gg_get, g_slc, g_rev, g_it, g_isi_int, g_isi_bool, g_isi_str, g_isi_tuple, g_isi_list, g_bF_len, g_bF_repr, g_bF_max, g_bF_str, g_bF_int, g_bF_tuple, g_bF_all, g_bF_any, g_bF_list, g_b1_len, g_b1_repr, g_b1_max, g_b1_str, g_b1_int, g_b1_tuple, g_b1_all, g_mu_append, k_tbl, c_eqI, c_neI, c_ltI, c_gtI, c_geI, c_leI, c_eqL, c_neL, c_eqT, c_neT, c_isB, c_notB, c_eqS, ownD, asgL, t_bl, t_non, t_lst, t_tup, n_str, n_lst, n_tup, tu_lst, li_tup, li_lst, i_int, i1_int, it_lst, it_tup, rv_tup, at_tup, o_some, g_tupL, g_lstL, sl_tup, b_addI, b_subI, b_addB, b_subB, b_subIB, bw_con, tw_con, et_con, bw_glob, tw_glob, et_glob, bw_bin, tw_bin, et_bin, bw_neg, tw_neg, et_neg, bw_nt, tw_nt, bw_and, tw_and, bw_or, tw_or, bw_cmp, tw_cmp, et_cmp, bw_chain, tw_chain, et_chain, bw_ife, tw_ife, et_ife, bw_tup, tw_tup, et_tup, bw_lst, tw_lst, et_lst, bw_dnew, tw_dnew, et_dnew, bw_sub, tw_sub, et_sub, bw_slc, tw_slc, et_slc, bw_rev, tw_rev, et_rev, bw_call, tw_call, et_call, bw_callK, tw_callK, et_callK, bw_b1, tw_b1, et_b1, bw_mth, tw_mth, et_mth, bw_mut, tw_mut, et_mut, bw_isi, tw_isi, et_isi, bw_lc, tw_lc, et_lc, bw_sset, tw_sset, et_sset, et_var, List.getElem?_cons_zero, List.getElem?_cons_succ, List.set_cons_zero, List.set_cons_succ, List.length_cons, List.length_nil, Option.map_some, if_true, if_false, Bool.false_eq_true, Nat.zero_add, Nat.reduceAdd, Nat.reduceLT, Nat.reduceLeDiff, List.zip_cons_cons, List.zip_nil_left, List.zip_nil_right, List.foldl_cons, List.foldl_nil, Bool.not_true, Bool.not_false, decide_true, decide_false, k_int h, k_bool h, Bool.true_and, Bool.false_and]
def F_line : Fn := runB (stdG (fl [("_law_is_whole", F_whole)]) ki0) b_l_is_line 3 4
theorem line_eq (m a : Int) (d : D) (w : DW) (h : lv d = true) (hs : sz d ≤ 100000) : F_line [d, .int m, .int a] w = .ok (.bl (rowB m a d)) w := by
  refine q_run rfl ?_
  show exSs _ b_l_is_line [.dat d, .dat (.int m), .dat (.int a), .emp] w = _
  unfold b_l_is_line
  have hk := k_tuple (lv_okT h)
  cases d <;> first | (exact absurd h Bool.false_ne_true) | skip
  case tup ns =>
    rw [lv, lvs_iff] at h
    have hn : ns.length ≤ 100000 := by
      have := szs_len ns
      simp only [sz] at hs
      omega
    by_cases ha : (ns.length : Int) = a
    · have hlc : lcD (.nm "_law_one_now" 3) [3] (evTs (stdG (fl [("_law_is_whole", F_whole)]) ki0) (.cons (.or (.nt (.call "_law_is_whole" (.cons (.var "_law_one_now" 3) .nil))) (.or (.cmp .Lt (.var "_law_one_now" 3) (.con (.int 0))) (.cmp .GtE (.var "_law_one_now" 3) (.var "_law_base" 1)))) .nil)) (ev (stdG (fl [("_law_is_whole", F_whole)]) ki0) (.var "_law_one_now" 3)) ns [] [.dat (.tup ns), .dat (.int m), .dat (.int a), .emp] w
          = .ok (([] : List D) ++ (ns.filter fun d => !cellB m d).map fun d => d) [.dat (.tup ns), .dat (.int m), .dat (.int a), .emp] w := by
        refine lc_pure (fun d => !cellB m d) (fun d => d) (fun d => [.dat (.tup ns), .dat (.int m), .dat (.int a), .dat d]) rfl (fun d _ => rfl) (fun d hd => ?_) (fun d hd _ => by simp only [exSs_cons, exSs_nil, exS_ret, exS_retN, exS_asg, exS_asgO, exS_asgT, exS_par2, exS_ex, exS_ifs, exS_for, for_nil, for_cons, fo_some, fr_nx, fr_rt, as_nm, as_tup, ev_var, ev_con, ev_bin, ev_cmp, ev_chain, ev_nt, ev_and, ev_or, ev_ife, ev_tup, ev_lst, ev_dnew, ev_sub, ev_slc, ev_rev, ev_call, ev_callK, ev_b1, ev_mut, ev_isi, evs_nil, evs_cons, evO_nil, evO_one, evT_and, evT_or, evT_nt, evI_val, evI_range1, evTs_nil, evTs_one, q_bind, q_bindS, q_of, q_at, q_rw, q_seq_nx, q_seq_rt, q_var, vd_dat, vd_own, q_rd, rdo_dat, rdo_own, q_brw_var, thV_some, twV_some, q_two_var, q_and, q_or, q_chain, q_callD, q_callKD, kiR_some, q_b1F, q_b1, q_isi, q_mut, q_ownK, oko_own, kindD, q_mutD, mdo_own, mdr_some, g_fn, g_ki, g_tru, g_cmp, g_bin, gg_get, g_slc, g_rev, g_it, g_isi_int, g_isi_bool, g_isi_str, g_isi_tuple, g_isi_list, g_bF_len, g_bF_repr, g_bF_max, g_bF_str, g_bF_int, g_bF_tuple, g_bF_all, g_bF_any, g_bF_list, g_b1_len, g_b1_repr, g_b1_max, g_b1_str, g_b1_int, g_b1_tuple, g_b1_all, g_mu_append, k_tbl, c_eqI, c_neI, c_ltI, c_gtI, c_geI, c_leI, c_eqL, c_neL, c_eqT, c_neT, c_isB, c_notB, c_eqS, ownD, asgL, t_bl, t_non, t_lst, t_tup, n_str, n_lst, n_tup, tu_lst, li_tup, li_lst, i_int, i1_int, it_lst, it_tup, rv_tup, at_tup, o_some, g_tupL, g_lstL, sl_tup, b_addI, b_subI, b_addB, b_subB, b_subIB, bw_con, tw_con, et_con, bw_glob, tw_glob, et_glob, bw_bin, tw_bin, et_bin, bw_neg, tw_neg, et_neg, bw_nt, tw_nt, bw_and, tw_and, bw_or, tw_or, bw_cmp, tw_cmp, et_cmp, bw_chain, tw_chain, et_chain, bw_ife, tw_ife, et_ife, bw_tup, tw_tup, et_tup, bw_lst, tw_lst, et_lst, bw_dnew, tw_dnew, et_dnew, bw_sub, tw_sub, et_sub, bw_slc, tw_slc, et_slc, bw_rev, tw_rev, et_rev, bw_call, tw_call, et_call, bw_callK, tw_callK, et_callK, bw_b1, tw_b1, et_b1, bw_mth, tw_mth, et_mth, bw_mut, tw_mut, et_mut, bw_isi, tw_isi, et_isi, bw_lc, tw_lc, et_lc, bw_sset, tw_sset, et_sset, et_var, List.getElem?_cons_zero, List.getElem?_cons_succ, List.set_cons_zero, List.set_cons_succ, List.length_cons, List.length_nil, Option.map_some, if_true, if_false, Bool.false_eq_true, Nat.zero_add, Nat.reduceAdd, Nat.reduceLT, Nat.reduceLeDiff, List.zip_cons_cons, List.zip_nil_left, List.zip_nil_right, List.foldl_cons, List.foldl_nil, Bool.not_true, Bool.not_false, decide_true, decide_false]) (fun d _ => rfl) (by simpa using hn)
        have hd := h d hd
        simp only [exSs_cons, exSs_nil, exS_ret, exS_retN, exS_asg, exS_asgO, exS_asgT, exS_par2, exS_ex, exS_ifs, exS_for, for_nil, for_cons, fo_some, fr_nx, fr_rt, as_nm, as_tup, ev_var, ev_con, ev_bin, ev_cmp, ev_chain, ev_nt, ev_and, ev_or, ev_ife, ev_tup, ev_lst, ev_dnew, ev_sub, ev_slc, ev_rev, ev_call, ev_callK, ev_b1, ev_mut, ev_isi, evs_nil, evs_cons, evO_nil, evO_one, evT_and, evT_or, evT_nt, evI_val, evI_range1, evTs_nil, evTs_one, q_bind, q_bindS, q_of, q_at, q_rw, q_seq_nx, q_seq_rt, q_var, vd_dat, vd_own, q_rd, rdo_dat, rdo_own, q_brw_var, thV_some, twV_some, q_two_var, q_and, q_or, q_chain, q_callD, q_callKD, kiR_some, q_b1F, q_b1, q_isi, q_mut, q_ownK, oko_own, kindD, q_mutD, mdo_own, mdr_some, g_fn, g_ki, g_tru, g_cmp, g_bin, gg_get, g_slc, g_rev, g_it, g_isi_int, g_isi_bool, g_isi_str, g_isi_tuple, g_isi_list, g_bF_len, g_bF_repr, g_bF_max, g_bF_str, g_bF_int, g_bF_tuple, g_bF_all, g_bF_any, g_bF_list, g_b1_len, g_b1_repr, g_b1_max, g_b1_str, g_b1_int, g_b1_tuple, g_b1_all, g_mu_append, k_tbl, c_eqI, c_neI, c_ltI, c_gtI, c_geI, c_leI, c_eqL, c_neL, c_eqT, c_neT, c_isB, c_notB, c_eqS, ownD, asgL, t_bl, t_non, t_lst, t_tup, n_str, n_lst, n_tup, tu_lst, li_tup, li_lst, i_int, i1_int, it_lst, it_tup, rv_tup, at_tup, o_some, g_tupL, g_lstL, sl_tup, b_addI, b_subI, b_addB, b_subB, b_subIB, bw_con, tw_con, et_con, bw_glob, tw_glob, et_glob, bw_bin, tw_bin, et_bin, bw_neg, tw_neg, et_neg, bw_nt, tw_nt, bw_and, tw_and, bw_or, tw_or, bw_cmp, tw_cmp, et_cmp, bw_chain, tw_chain, et_chain, bw_ife, tw_ife, et_ife, bw_tup, tw_tup, et_tup, bw_lst, tw_lst, et_lst, bw_dnew, tw_dnew, et_dnew, bw_sub, tw_sub, et_sub, bw_slc, tw_slc, et_slc, bw_rev, tw_rev, et_rev, bw_call, tw_call, et_call, bw_callK, tw_callK, et_callK, bw_b1, tw_b1, et_b1, bw_mth, tw_mth, et_mth, bw_mut, tw_mut, et_mut, bw_isi, tw_isi, et_isi, bw_lc, tw_lc, et_lc, bw_sset, tw_sset, et_sset, et_var, List.getElem?_cons_zero, List.getElem?_cons_succ, List.set_cons_zero, List.set_cons_succ, List.length_cons, List.length_nil, Option.map_some, if_true, if_false, Bool.false_eq_true, Nat.zero_add, Nat.reduceAdd, Nat.reduceLT, Nat.reduceLeDiff, List.zip_cons_cons, List.zip_nil_left, List.zip_nil_right, List.foldl_cons, List.foldl_nil, Bool.not_true, Bool.not_false, decide_true, decide_false, fl_hit, whole_eq d w (lv_okT hd)]
        cases d <;> simp only [isI, cellB, exSs_cons, exSs_nil, exS_ret, exS_retN, exS_asg, exS_asgO, exS_asgT, exS_par2, exS_ex, exS_ifs, exS_for, for_nil, for_cons, fo_some, fr_nx, fr_rt, as_nm, as_tup, ev_var, ev_con, ev_bin, ev_cmp, ev_chain, ev_nt, ev_and, ev_or, ev_ife, ev_tup, ev_lst, ev_dnew, ev_sub, ev_slc, ev_rev, ev_call, ev_callK, ev_b1, ev_mut, ev_isi, evs_nil, evs_cons, evO_nil, evO_one, evT_and, evT_or, evT_nt, evI_val, evI_range1, evTs_nil, evTs_one, q_bind, q_bindS, q_of, q_at, q_rw, q_seq_nx, q_seq_rt, q_var, vd_dat, vd_own, q_rd, rdo_dat, rdo_own, q_brw_var, thV_some, twV_some, q_two_var, q_and, q_or, q_chain, q_callD, q_callKD, kiR_some, q_b1F, q_b1, q_isi, q_mut, q_ownK, oko_own, kindD, q_mutD, mdo_own, mdr_some, g_fn, g_ki, g_tru, g_cmp, g_bin, gg_get, g_slc, g_rev, g_it, g_isi_int, g_isi_bool, g_isi_str, g_isi_tuple, g_isi_list, g_bF_len, g_bF_repr, g_bF_max, g_bF_str, g_bF_int, g_bF_tuple, g_bF_all, g_bF_any, g_bF_list, g_b1_len, g_b1_repr, g_b1_max, g_b1_str, g_b1_int, g_b1_tuple, g_b1_all, g_mu_append, k_tbl, c_eqI, c_neI, c_ltI, c_gtI, c_geI, c_leI, c_eqL, c_neL, c_eqT, c_neT, c_isB, c_notB, c_eqS, ownD, asgL, t_bl, t_non, t_lst, t_tup, n_str, n_lst, n_tup, tu_lst, li_tup, li_lst, i_int, i1_int, it_lst, it_tup, rv_tup, at_tup, o_some, g_tupL, g_lstL, sl_tup, b_addI, b_subI, b_addB, b_subB, b_subIB, bw_con, tw_con, et_con, bw_glob, tw_glob, et_glob, bw_bin, tw_bin, et_bin, bw_neg, tw_neg, et_neg, bw_nt, tw_nt, bw_and, tw_and, bw_or, tw_or, bw_cmp, tw_cmp, et_cmp, bw_chain, tw_chain, et_chain, bw_ife, tw_ife, et_ife, bw_tup, tw_tup, et_tup, bw_lst, tw_lst, et_lst, bw_dnew, tw_dnew, et_dnew, bw_sub, tw_sub, et_sub, bw_slc, tw_slc, et_slc, bw_rev, tw_rev, et_rev, bw_call, tw_call, et_call, bw_callK, tw_callK, et_callK, bw_b1, tw_b1, et_b1, bw_mth, tw_mth, et_mth, bw_mut, tw_mut, et_mut, bw_isi, tw_isi, et_isi, bw_lc, tw_lc, et_lc, bw_sset, tw_sset, et_sset, et_var, List.getElem?_cons_zero, List.getElem?_cons_succ, List.set_cons_zero, List.set_cons_succ, List.length_cons, List.length_nil, Option.map_some, if_true, if_false, Bool.false_eq_true, Nat.zero_add, Nat.reduceAdd, Nat.reduceLT, Nat.reduceLeDiff, List.zip_cons_cons, List.zip_nil_left, List.zip_nil_right, List.foldl_cons, List.foldl_nil, Bool.not_true, Bool.not_false, decide_true, decide_false]
        case int i hm =>
          by_cases h0 : i < 0
          · have e1 : decide (0 ≤ i) = false := by simp; omega
            simp only [exSs_cons, exSs_nil, exS_ret, exS_retN, exS_asg, exS_asgO, exS_asgT, exS_par2, exS_ex, exS_ifs, exS_for, for_nil, for_cons, fo_some, fr_nx, fr_rt, as_nm, as_tup, ev_var, ev_con, ev_bin, ev_cmp, ev_chain, ev_nt, ev_and, ev_or, ev_ife, ev_tup, ev_lst, ev_dnew, ev_sub, ev_slc, ev_rev, ev_call, ev_callK, ev_b1, ev_mut, ev_isi, evs_nil, evs_cons, evO_nil, evO_one, evT_and, evT_or, evT_nt, evI_val, evI_range1, evTs_nil, evTs_one, q_bind, q_bindS, q_of, q_at, q_rw, q_seq_nx, q_seq_rt, q_var, vd_dat, vd_own, q_rd, rdo_dat, rdo_own, q_brw_var, thV_some, twV_some, q_two_var, q_and, q_or, q_chain, q_callD, q_callKD, kiR_some, q_b1F, q_b1, q_isi, q_mut, q_ownK, oko_own, kindD, q_mutD, mdo_own, mdr_some, g_fn, g_ki, g_tru, g_cmp, g_bin, gg_get, g_slc, g_rev, g_it, g_isi_int, g_isi_bool, g_isi_str, g_isi_tuple, g_isi_list, g_bF_len, g_bF_repr, g_bF_max, g_bF_str, g_bF_int, g_bF_tuple, g_bF_all, g_bF_any, g_bF_list, g_b1_len, g_b1_repr, g_b1_max, g_b1_str, g_b1_int, g_b1_tuple, g_b1_all, g_mu_append, k_tbl, c_eqI, c_neI, c_ltI, c_gtI, c_geI, c_leI, c_eqL, c_neL, c_eqT, c_neT, c_isB, c_notB, c_eqS, ownD, asgL, t_bl, t_non, t_lst, t_tup, n_str, n_lst, n_tup, tu_lst, li_tup, li_lst, i_int, i1_int, it_lst, it_tup, rv_tup, at_tup, o_some, g_tupL, g_lstL, sl_tup, b_addI, b_subI, b_addB, b_subB, b_subIB, bw_con, tw_con, et_con, bw_glob, tw_glob, et_glob, bw_bin, tw_bin, et_bin, bw_neg, tw_neg, et_neg, bw_nt, tw_nt, bw_and, tw_and, bw_or, tw_or, bw_cmp, tw_cmp, et_cmp, bw_chain, tw_chain, et_chain, bw_ife, tw_ife, et_ife, bw_tup, tw_tup, et_tup, bw_lst, tw_lst, et_lst, bw_dnew, tw_dnew, et_dnew, bw_sub, tw_sub, et_sub, bw_slc, tw_slc, et_slc, bw_rev, tw_rev, et_rev, bw_call, tw_call, et_call, bw_callK, tw_callK, et_callK, bw_b1, tw_b1, et_b1, bw_mth, tw_mth, et_mth, bw_mut, tw_mut, et_mut, bw_isi, tw_isi, et_isi, bw_lc, tw_lc, et_lc, bw_sset, tw_sset, et_sset, et_var, List.getElem?_cons_zero, List.getElem?_cons_succ, List.set_cons_zero, List.set_cons_succ, List.length_cons, List.length_nil, Option.map_some, if_true, if_false, Bool.false_eq_true, Nat.zero_add, Nat.reduceAdd, Nat.reduceLT, Nat.reduceLeDiff, List.zip_cons_cons, List.zip_nil_left, List.zip_nil_right, List.foldl_cons, List.foldl_nil, Bool.not_true, Bool.not_false, decide_true, decide_false, h0, e1, Bool.false_and]
          · have e1 : decide (0 ≤ i) = true := by simp; omega
            simp only [exSs_cons, exSs_nil, exS_ret, exS_retN, exS_asg, exS_asgO, exS_asgT, exS_par2, exS_ex, exS_ifs, exS_for, for_nil, for_cons, fo_some, fr_nx, fr_rt, as_nm, as_tup, ev_var, ev_con, ev_bin, ev_cmp, ev_chain, ev_nt, ev_and, ev_or, ev_ife, ev_tup, ev_lst, ev_dnew, ev_sub, ev_slc, ev_rev, ev_call, ev_callK, ev_b1, ev_mut, ev_isi, evs_nil, evs_cons, evO_nil, evO_one, evT_and, evT_or, evT_nt, evI_val, evI_range1, evTs_nil, evTs_one, q_bind, q_bindS, q_of, q_at, q_rw, q_seq_nx, q_seq_rt, q_var, vd_dat, vd_own, q_rd, rdo_dat, rdo_own, q_brw_var, thV_some, twV_some, q_two_var, q_and, q_or, q_chain, q_callD, q_callKD, kiR_some, q_b1F, q_b1, q_isi, q_mut, q_ownK, oko_own, kindD, q_mutD, mdo_own, mdr_some, g_fn, g_ki, g_tru, g_cmp, g_bin, gg_get, g_slc, g_rev, g_it, g_isi_int, g_isi_bool, g_isi_str, g_isi_tuple, g_isi_list, g_bF_len, g_bF_repr, g_bF_max, g_bF_str, g_bF_int, g_bF_tuple, g_bF_all, g_bF_any, g_bF_list, g_b1_len, g_b1_repr, g_b1_max, g_b1_str, g_b1_int, g_b1_tuple, g_b1_all, g_mu_append, k_tbl, c_eqI, c_neI, c_ltI, c_gtI, c_geI, c_leI, c_eqL, c_neL, c_eqT, c_neT, c_isB, c_notB, c_eqS, ownD, asgL, t_bl, t_non, t_lst, t_tup, n_str, n_lst, n_tup, tu_lst, li_tup, li_lst, i_int, i1_int, it_lst, it_tup, rv_tup, at_tup, o_some, g_tupL, g_lstL, sl_tup, b_addI, b_subI, b_addB, b_subB, b_subIB, bw_con, tw_con, et_con, bw_glob, tw_glob, et_glob, bw_bin, tw_bin, et_bin, bw_neg, tw_neg, et_neg, bw_nt, tw_nt, bw_and, tw_and, bw_or, tw_or, bw_cmp, tw_cmp, et_cmp, bw_chain, tw_chain, et_chain, bw_ife, tw_ife, et_ife, bw_tup, tw_tup, et_tup, bw_lst, tw_lst, et_lst, bw_dnew, tw_dnew, et_dnew, bw_sub, tw_sub, et_sub, bw_slc, tw_slc, et_slc, bw_rev, tw_rev, et_rev, bw_call, tw_call, et_call, bw_callK, tw_callK, et_callK, bw_b1, tw_b1, et_b1, bw_mth, tw_mth, et_mth, bw_mut, tw_mut, et_mut, bw_isi, tw_isi, et_isi, bw_lc, tw_lc, et_lc, bw_sset, tw_sset, et_sset, et_var, List.getElem?_cons_zero, List.getElem?_cons_succ, List.set_cons_zero, List.set_cons_succ, List.length_cons, List.length_nil, Option.map_some, if_true, if_false, Bool.false_eq_true, Nat.zero_add, Nat.reduceAdd, Nat.reduceLT, Nat.reduceLeDiff, List.zip_cons_cons, List.zip_nil_left, List.zip_nil_right, List.foldl_cons, List.foldl_nil, Bool.not_true, Bool.not_false, decide_true, decide_false, h0, e1, Bool.true_and]
      simp only [exSs_cons, exSs_nil, exS_ret, exS_retN, exS_asg, exS_asgO, exS_asgT, exS_par2, exS_ex, exS_ifs, exS_for, for_nil, for_cons, fo_some, fr_nx, fr_rt, as_nm, as_tup, ev_var, ev_con, ev_bin, ev_cmp, ev_chain, ev_nt, ev_and, ev_or, ev_ife, ev_tup, ev_lst, ev_dnew, ev_sub, ev_slc, ev_rev, ev_call, ev_callK, ev_b1, ev_mut, ev_isi, evs_nil, evs_cons, evO_nil, evO_one, evT_and, evT_or, evT_nt, evI_val, evI_range1, evTs_nil, evTs_one, q_bind, q_bindS, q_of, q_at, q_rw, q_seq_nx, q_seq_rt, q_var, vd_dat, vd_own, q_rd, rdo_dat, rdo_own, q_brw_var, thV_some, twV_some, q_two_var, q_and, q_or, q_chain, q_callD, q_callKD, kiR_some, q_b1F, q_b1, q_isi, q_mut, q_ownK, oko_own, kindD, q_mutD, mdo_own, mdr_some, g_fn, g_ki, g_tru, g_cmp, g_bin, gg_get, g_slc, g_rev, g_it, g_isi_int, g_isi_bool, g_isi_str, g_isi_tuple, g_isi_list, g_bF_len, g_bF_repr, g_bF_max, g_bF_str, g_bF_int, g_bF_tuple, g_bF_all, g_bF_any, g_bF_list, g_b1_len, g_b1_repr, g_b1_max, g_b1_str, g_b1_int, g_b1_tuple, g_b1_all, g_mu_append, k_tbl, c_eqI, c_neI, c_ltI, c_gtI, c_geI, c_leI, c_eqL, c_neL, c_eqT, c_neT, c_isB, c_notB, c_eqS, ownD, asgL, t_bl, t_non, t_lst, t_tup, n_str, n_lst, n_tup, tu_lst, li_tup, li_lst, i_int, i1_int, it_lst, it_tup, rv_tup, at_tup, o_some, g_tupL, g_lstL, sl_tup, b_addI, b_subI, b_addB, b_subB, b_subIB, bw_con, tw_con, et_con, bw_glob, tw_glob, et_glob, bw_bin, tw_bin, et_bin, bw_neg, tw_neg, et_neg, bw_nt, tw_nt, bw_and, tw_and, bw_or, tw_or, bw_cmp, tw_cmp, et_cmp, bw_chain, tw_chain, et_chain, bw_ife, tw_ife, et_ife, bw_tup, tw_tup, et_tup, bw_lst, tw_lst, et_lst, bw_dnew, tw_dnew, et_dnew, bw_sub, tw_sub, et_sub, bw_slc, tw_slc, et_slc, bw_rev, tw_rev, et_rev, bw_call, tw_call, et_call, bw_callK, tw_callK, et_callK, bw_b1, tw_b1, et_b1, bw_mth, tw_mth, et_mth, bw_mut, tw_mut, et_mut, bw_isi, tw_isi, et_isi, bw_lc, tw_lc, et_lc, bw_sset, tw_sset, et_sset, et_var, List.getElem?_cons_zero, List.getElem?_cons_succ, List.set_cons_zero, List.set_cons_succ, List.length_cons, List.length_nil, Option.map_some, if_true, if_false, Bool.false_eq_true, Nat.zero_add, Nat.reduceAdd, Nat.reduceLT, Nat.reduceLeDiff, List.zip_cons_cons, List.zip_nil_left, List.zip_nil_right, List.foldl_cons, List.foldl_nil, Bool.not_true, Bool.not_false, decide_true, decide_false, hk, tupB, ev_lc, List.map_cons, List.map_nil, hlc, rowB, ha, List.nil_append, List.map_id', filt_not, Bool.true_and]
    · simp only [exSs_cons, exSs_nil, exS_ret, exS_retN, exS_asg, exS_asgO, exS_asgT, exS_par2, exS_ex, exS_ifs, exS_for, for_nil, for_cons, fo_some, fr_nx, fr_rt, as_nm, as_tup, ev_var, ev_con, ev_bin, ev_cmp, ev_chain, ev_nt, ev_and, ev_or, ev_ife, ev_tup, ev_lst, ev_dnew, ev_sub, ev_slc, ev_rev, ev_call, ev_callK, ev_b1, ev_mut, ev_isi, evs_nil, evs_cons, evO_nil, evO_one, evT_and, evT_or, evT_nt, evI_val, evI_range1, evTs_nil, evTs_one, q_bind, q_bindS, q_of, q_at, q_rw, q_seq_nx, q_seq_rt, q_var, vd_dat, vd_own, q_rd, rdo_dat, rdo_own, q_brw_var, thV_some, twV_some, q_two_var, q_and, q_or, q_chain, q_callD, q_callKD, kiR_some, q_b1F, q_b1, q_isi, q_mut, q_ownK, oko_own, kindD, q_mutD, mdo_own, mdr_some, g_fn, g_ki, g_tru, g_cmp, g_bin, gg_get, g_slc, g_rev, g_it, g_isi_int, g_isi_bool, g_isi_str, g_isi_tuple, g_isi_list, g_bF_len, g_bF_repr, g_bF_max, g_bF_str, g_bF_int, g_bF_tuple, g_bF_all, g_bF_any, g_bF_list, g_b1_len, g_b1_repr, g_b1_max, g_b1_str, g_b1_int, g_b1_tuple, g_b1_all, g_mu_append, k_tbl, c_eqI, c_neI, c_ltI, c_gtI, c_geI, c_leI, c_eqL, c_neL, c_eqT, c_neT, c_isB, c_notB, c_eqS, ownD, asgL, t_bl, t_non, t_lst, t_tup, n_str, n_lst, n_tup, tu_lst, li_tup, li_lst, i_int, i1_int, it_lst, it_tup, rv_tup, at_tup, o_some, g_tupL, g_lstL, sl_tup, b_addI, b_subI, b_addB, b_subB, b_subIB, bw_con, tw_con, et_con, bw_glob, tw_glob, et_glob, bw_bin, tw_bin, et_bin, bw_neg, tw_neg, et_neg, bw_nt, tw_nt, bw_and, tw_and, bw_or, tw_or, bw_cmp, tw_cmp, et_cmp, bw_chain, tw_chain, et_chain, bw_ife, tw_ife, et_ife, bw_tup, tw_tup, et_tup, bw_lst, tw_lst, et_lst, bw_dnew, tw_dnew, et_dnew, bw_sub, tw_sub, et_sub, bw_slc, tw_slc, et_slc, bw_rev, tw_rev, et_rev, bw_call, tw_call, et_call, bw_callK, tw_callK, et_callK, bw_b1, tw_b1, et_b1, bw_mth, tw_mth, et_mth, bw_mut, tw_mut, et_mut, bw_isi, tw_isi, et_isi, bw_lc, tw_lc, et_lc, bw_sset, tw_sset, et_sset, et_var, List.getElem?_cons_zero, List.getElem?_cons_succ, List.set_cons_zero, List.set_cons_succ, List.length_cons, List.length_nil, Option.map_some, if_true, if_false, Bool.false_eq_true, Nat.zero_add, Nat.reduceAdd, Nat.reduceLT, Nat.reduceLeDiff, List.zip_cons_cons, List.zip_nil_left, List.zip_nil_right, List.foldl_cons, List.foldl_nil, Bool.not_true, Bool.not_false, decide_true, decide_false, hk, tupB, rowB, ha, Bool.false_and]
  all_goals simp only [exSs_cons, exSs_nil, exS_ret, exS_retN, exS_asg, exS_asgO, exS_asgT, exS_par2, exS_ex, exS_ifs, exS_for, for_nil, for_cons, fo_some, fr_nx, fr_rt, as_nm, as_tup, ev_var, ev_con, ev_bin, ev_cmp, ev_chain, ev_nt, ev_and, ev_or, ev_ife, ev_tup, ev_lst, ev_dnew, ev_sub, ev_slc, ev_rev, ev_call, ev_callK, ev_b1, ev_mut, ev_isi, evs_nil, evs_cons, evO_nil, evO_one, evT_and, evT_or, evT_nt, evI_val, evI_range1, evTs_nil, evTs_one, q_bind, q_bindS, q_of, q_at, q_rw, q_seq_nx, q_seq_rt, q_var, vd_dat, vd_own, q_rd, rdo_dat, rdo_own, q_brw_var, thV_some, twV_some, q_two_var, q_and, q_or, q_chain, q_callD, q_callKD, kiR_some, q_b1F, q_b1, q_isi, q_mut, q_ownK, oko_own, kindD, q_mutD, mdo_own, mdr_some, g_fn, g_ki, g_tru, g_cmp, g_bin, gg_get, g_slc, g_rev, g_it, g_isi_int, g_isi_bool, g_isi_str, g_isi_tuple, g_isi_list, g_bF_len, g_bF_repr, g_bF_max, g_bF_str, g_bF_int, g_bF_tuple, g_bF_all, g_bF_any, g_bF_list, g_b1_len, g_b1_repr, g_b1_max, g_b1_str, g_b1_int, g_b1_tuple, g_b1_all, g_mu_append, k_tbl, c_eqI, c_neI, c_ltI, c_gtI, c_geI, c_leI, c_eqL, c_neL, c_eqT, c_neT, c_isB, c_notB, c_eqS, ownD, asgL, t_bl, t_non, t_lst, t_tup, n_str, n_lst, n_tup, tu_lst, li_tup, li_lst, i_int, i1_int, it_lst, it_tup, rv_tup, at_tup, o_some, g_tupL, g_lstL, sl_tup, b_addI, b_subI, b_addB, b_subB, b_subIB, bw_con, tw_con, et_con, bw_glob, tw_glob, et_glob, bw_bin, tw_bin, et_bin, bw_neg, tw_neg, et_neg, bw_nt, tw_nt, bw_and, tw_and, bw_or, tw_or, bw_cmp, tw_cmp, et_cmp, bw_chain, tw_chain, et_chain, bw_ife, tw_ife, et_ife, bw_tup, tw_tup, et_tup, bw_lst, tw_lst, et_lst, bw_dnew, tw_dnew, et_dnew, bw_sub, tw_sub, et_sub, bw_slc, tw_slc, et_slc, bw_rev, tw_rev, et_rev, bw_call, tw_call, et_call, bw_callK, tw_callK, et_callK, bw_b1, tw_b1, et_b1, bw_mth, tw_mth, et_mth, bw_mut, tw_mut, et_mut, bw_isi, tw_isi, et_isi, bw_lc, tw_lc, et_lc, bw_sset, tw_sset, et_sset, et_var, List.getElem?_cons_zero, List.getElem?_cons_succ, List.set_cons_zero, List.set_cons_succ, List.length_cons, List.length_nil, Option.map_some, if_true, if_false, Bool.false_eq_true, Nat.zero_add, Nat.reduceAdd, Nat.reduceLT, Nat.reduceLeDiff, List.zip_cons_cons, List.zip_nil_left, List.zip_nil_right, List.foldl_cons, List.foldl_nil, Bool.not_true, Bool.not_false, decide_true, decide_false, hk, tupB, rowB]
def F_shade : Fn := runB (stdG (fl [("_law_is_whole", F_whole), ("_law_is_line", F_line)]) ki0) b_l_is_shade 2 10
theorem miss2 {F : Fn} {l : List (Str × Fn)} : fl (("_law_is_whole", F) :: l) "_law_is_line" = fl l "_law_is_line" := fl_miss (by decide)
def shG : Gm := stdG (fl [("_law_is_whole", F_whole), ("_law_is_line", F_line)]) ki0
def tabBody : PYs := (.cons (.ifs (.or (.nt (.isi (.var "_law_table" 8) "tuple")) (.cmp .NotEq (.b1 "len" (.var "_law_table" 8)) (.var "_law_tall" 4))) (.cons (.ret (.con (.bl false))) .nil) .nil) (.cons (.ifs (.cmp .NotEq (.lc (.var "_law_line" 9) (.nm "_law_line" 9) (.val (.var "_law_table" 8)) (.cons (.nt (.call "_law_is_line" (.cons (.var "_law_line" 9) (.cons (.var "_law_base" 2) (.cons (.var "_law_wide" 3) .nil))))) .nil) [("_law_line", 9)]) (.lst .nil)) (.cons (.ret (.con (.bl false))) .nil) .nil) .nil))
/-- the loop over the tables -/
theorem tabs_loop (S T : Sl) (m a b : Int) (t p l : Sl) (w : DW) : ∀ (ts : List D) (x : Sl), (∀ d ∈ ts, lv d = true) → szs ts ≤ 100000 → ∃ x', forD (.nm "_law_table" 8) (exSs (stdG (fl [("_law_is_whole", F_whole), ("_law_is_line", F_line)]) ki0) tabBody) ts [S, T, .dat (.int m), .dat (.int a), .dat (.int b), t, p, l, x, .emp] w
    = if ts.all (tabB m a b) then .nx [S, T, .dat (.int m), .dat (.int a), .dat (.int b), t, p, l, x', .emp] w else .rt (.bl false) w
  | [], x, _, _ => ⟨x, by simp only [exSs_cons, exSs_nil, exS_ret, exS_retN, exS_asg, exS_asgO, exS_asgT, exS_par2, exS_ex, exS_ifs, exS_for, for_nil, for_cons, fo_some, fr_nx, fr_rt, as_nm, as_tup, ev_var, ev_con, ev_bin, ev_cmp, ev_chain, ev_nt, ev_and, ev_or, ev_ife, ev_tup, ev_lst, ev_dnew, ev_sub, ev_slc, ev_rev, ev_call, ev_callK, ev_b1, ev_mut, ev_isi, evs_nil, evs_cons, evO_nil, evO_one, evT_and, evT_or, evT_nt, evI_val, evI_range1, evTs_nil, evTs_one, q_bind, q_bindS, q_of, q_at, q_rw, q_seq_nx, q_seq_rt, q_var, vd_dat, vd_own, q_rd, rdo_dat, rdo_own, q_brw_var, thV_some, twV_some, q_two_var, q_and, q_or, q_chain, q_callD, q_callKD, kiR_some, q_b1F, q_b1, q_isi, q_mut, q_ownK, oko_own, kindD, q_mutD, mdo_own, mdr_some, g_fn, g_ki, g_tru, g_cmp, g_bin, gg_get, g_slc, g_rev, g_it, g_isi_int, g_isi_bool, g_isi_str, g_isi_tuple, g_isi_list, g_bF_len, g_bF_repr, g_bF_max, g_bF_str, g_bF_int, g_bF_tuple, g_bF_all, g_bF_any, g_bF_list, g_b1_len, g_b1_repr, g_b1_max, g_b1_str, g_b1_int, g_b1_tuple, g_b1_all, g_mu_append, k_tbl, c_eqI, c_neI, c_ltI, c_gtI, c_geI, c_leI, c_eqL, c_neL, c_eqT, c_neT, c_isB, c_notB, c_eqS, ownD, asgL, t_bl, t_non, t_lst, t_tup, n_str, n_lst, n_tup, tu_lst, li_tup, li_lst, i_int, i1_int, it_lst, it_tup, rv_tup, at_tup, o_some, g_tupL, g_lstL, sl_tup, b_addI, b_subI, b_addB, b_subB, b_subIB, bw_con, tw_con, et_con, bw_glob, tw_glob, et_glob, bw_bin, tw_bin, et_bin, bw_neg, tw_neg, et_neg, bw_nt, tw_nt, bw_and, tw_and, bw_or, tw_or, bw_cmp, tw_cmp, et_cmp, bw_chain, tw_chain, et_chain, bw_ife, tw_ife, et_ife, bw_tup, tw_tup, et_tup, bw_lst, tw_lst, et_lst, bw_dnew, tw_dnew, et_dnew, bw_sub, tw_sub, et_sub, bw_slc, tw_slc, et_slc, bw_rev, tw_rev, et_rev, bw_call, tw_call, et_call, bw_callK, tw_callK, et_callK, bw_b1, tw_b1, et_b1, bw_mth, tw_mth, et_mth, bw_mut, tw_mut, et_mut, bw_isi, tw_isi, et_isi, bw_lc, tw_lc, et_lc, bw_sset, tw_sset, et_sset, et_var, List.getElem?_cons_zero, List.getElem?_cons_succ, List.set_cons_zero, List.set_cons_succ, List.length_cons, List.length_nil, Option.map_some, if_true, if_false, Bool.false_eq_true, Nat.zero_add, Nat.reduceAdd, Nat.reduceLT, Nat.reduceLeDiff, List.zip_cons_cons, List.zip_nil_left, List.zip_nil_right, List.foldl_cons, List.foldl_nil, Bool.not_true, Bool.not_false, decide_true, decide_false, List.all_nil]⟩
  | d :: ts, x, h, hs => by
    simp only [szs] at hs
    have h1 := h d List.mem_cons_self
    have hk := k_tuple (lv_okT h1)
    obtain ⟨x', e⟩ := tabs_loop S T m a b t p l w ts (.dat d) (fun e he => h e (.tail _ he)) (by omega)
    refine ⟨x', ?_⟩
    have turn : exSs (stdG (fl [("_law_is_whole", F_whole), ("_law_is_line", F_line)]) ki0) tabBody [S, T, .dat (.int m), .dat (.int a), .dat (.int b), t, p, l, .dat d, .emp] w = if tabB m a b d then .nx [S, T, .dat (.int m), .dat (.int a), .dat (.int b), t, p, l, .dat d, .emp] w else .rt (.bl false) w := by
      unfold tabBody
      cases d <;> first | (exact absurd h1 Bool.false_ne_true) | skip
      case tup ns =>
        rw [lv, lvs_iff] at h1
        have hn : szs ns ≤ 100000 := by
          simp only [sz] at hs
          omega
        have hn2 : ns.length ≤ 100000 := Nat.le_trans (szs_len ns) hn
        by_cases ha : (ns.length : Int) = b
        · have hlc : lcD (.nm "_law_line" 9) [9] (evTs (stdG (fl [("_law_is_whole", F_whole), ("_law_is_line", F_line)]) ki0) (.cons (.nt (.call "_law_is_line" (.cons (.var "_law_line" 9) (.cons (.var "_law_base" 2) (.cons (.var "_law_wide" 3) .nil))))) .nil)) (ev (stdG (fl [("_law_is_whole", F_whole), ("_law_is_line", F_line)]) ki0) (.var "_law_line" 9)) ns [] [S, T, .dat (.int m), .dat (.int a), .dat (.int b), t, p, l, .dat (.tup ns), .emp] w
              = .ok (([] : List D) ++ (ns.filter fun d => !rowB m a d).map fun d => d) [S, T, .dat (.int m), .dat (.int a), .dat (.int b), t, p, l, .dat (.tup ns), .emp] w := by
            refine lc_pure (fun d => !rowB m a d) (fun d => d) (fun d => [S, T, .dat (.int m), .dat (.int a), .dat (.int b), t, p, l, .dat (.tup ns), .dat d]) rfl (fun d _ => rfl) (fun d hd => ?_) (fun d hd _ => by simp only [exSs_cons, exSs_nil, exS_ret, exS_retN, exS_asg, exS_asgO, exS_asgT, exS_par2, exS_ex, exS_ifs, exS_for, for_nil, for_cons, fo_some, fr_nx, fr_rt, as_nm, as_tup, ev_var, ev_con, ev_bin, ev_cmp, ev_chain, ev_nt, ev_and, ev_or, ev_ife, ev_tup, ev_lst, ev_dnew, ev_sub, ev_slc, ev_rev, ev_call, ev_callK, ev_b1, ev_mut, ev_isi, evs_nil, evs_cons, evO_nil, evO_one, evT_and, evT_or, evT_nt, evI_val, evI_range1, evTs_nil, evTs_one, q_bind, q_bindS, q_of, q_at, q_rw, q_seq_nx, q_seq_rt, q_var, vd_dat, vd_own, q_rd, rdo_dat, rdo_own, q_brw_var, thV_some, twV_some, q_two_var, q_and, q_or, q_chain, q_callD, q_callKD, kiR_some, q_b1F, q_b1, q_isi, q_mut, q_ownK, oko_own, kindD, q_mutD, mdo_own, mdr_some, g_fn, g_ki, g_tru, g_cmp, g_bin, gg_get, g_slc, g_rev, g_it, g_isi_int, g_isi_bool, g_isi_str, g_isi_tuple, g_isi_list, g_bF_len, g_bF_repr, g_bF_max, g_bF_str, g_bF_int, g_bF_tuple, g_bF_all, g_bF_any, g_bF_list, g_b1_len, g_b1_repr, g_b1_max, g_b1_str, g_b1_int, g_b1_tuple, g_b1_all, g_mu_append, k_tbl, c_eqI, c_neI, c_ltI, c_gtI, c_geI, c_leI, c_eqL, c_neL, c_eqT, c_neT, c_isB, c_notB, c_eqS, ownD, asgL, t_bl, t_non, t_lst, t_tup, n_str, n_lst, n_tup, tu_lst, li_tup, li_lst, i_int, i1_int, it_lst, it_tup, rv_tup, at_tup, o_some, g_tupL, g_lstL, sl_tup, b_addI, b_subI, b_addB, b_subB, b_subIB, bw_con, tw_con, et_con, bw_glob, tw_glob, et_glob, bw_bin, tw_bin, et_bin, bw_neg, tw_neg, et_neg, bw_nt, tw_nt, bw_and, tw_and, bw_or, tw_or, bw_cmp, tw_cmp, et_cmp, bw_chain, tw_chain, et_chain, bw_ife, tw_ife, et_ife, bw_tup, tw_tup, et_tup, bw_lst, tw_lst, et_lst, bw_dnew, tw_dnew, et_dnew, bw_sub, tw_sub, et_sub, bw_slc, tw_slc, et_slc, bw_rev, tw_rev, et_rev, bw_call, tw_call, et_call, bw_callK, tw_callK, et_callK, bw_b1, tw_b1, et_b1, bw_mth, tw_mth, et_mth, bw_mut, tw_mut, et_mut, bw_isi, tw_isi, et_isi, bw_lc, tw_lc, et_lc, bw_sset, tw_sset, et_sset, et_var, List.getElem?_cons_zero, List.getElem?_cons_succ, List.set_cons_zero, List.set_cons_succ, List.length_cons, List.length_nil, Option.map_some, if_true, if_false, Bool.false_eq_true, Nat.zero_add, Nat.reduceAdd, Nat.reduceLT, Nat.reduceLeDiff, List.zip_cons_cons, List.zip_nil_left, List.zip_nil_right, List.foldl_cons, List.foldl_nil, Bool.not_true, Bool.not_false, decide_true, decide_false]) (fun d _ => rfl) (by simpa using hn2)
            simp only [exSs_cons, exSs_nil, exS_ret, exS_retN, exS_asg, exS_asgO, exS_asgT, exS_par2, exS_ex, exS_ifs, exS_for, for_nil, for_cons, fo_some, fr_nx, fr_rt, as_nm, as_tup, ev_var, ev_con, ev_bin, ev_cmp, ev_chain, ev_nt, ev_and, ev_or, ev_ife, ev_tup, ev_lst, ev_dnew, ev_sub, ev_slc, ev_rev, ev_call, ev_callK, ev_b1, ev_mut, ev_isi, evs_nil, evs_cons, evO_nil, evO_one, evT_and, evT_or, evT_nt, evI_val, evI_range1, evTs_nil, evTs_one, q_bind, q_bindS, q_of, q_at, q_rw, q_seq_nx, q_seq_rt, q_var, vd_dat, vd_own, q_rd, rdo_dat, rdo_own, q_brw_var, thV_some, twV_some, q_two_var, q_and, q_or, q_chain, q_callD, q_callKD, kiR_some, q_b1F, q_b1, q_isi, q_mut, q_ownK, oko_own, kindD, q_mutD, mdo_own, mdr_some, g_fn, g_ki, g_tru, g_cmp, g_bin, gg_get, g_slc, g_rev, g_it, g_isi_int, g_isi_bool, g_isi_str, g_isi_tuple, g_isi_list, g_bF_len, g_bF_repr, g_bF_max, g_bF_str, g_bF_int, g_bF_tuple, g_bF_all, g_bF_any, g_bF_list, g_b1_len, g_b1_repr, g_b1_max, g_b1_str, g_b1_int, g_b1_tuple, g_b1_all, g_mu_append, k_tbl, c_eqI, c_neI, c_ltI, c_gtI, c_geI, c_leI, c_eqL, c_neL, c_eqT, c_neT, c_isB, c_notB, c_eqS, ownD, asgL, t_bl, t_non, t_lst, t_tup, n_str, n_lst, n_tup, tu_lst, li_tup, li_lst, i_int, i1_int, it_lst, it_tup, rv_tup, at_tup, o_some, g_tupL, g_lstL, sl_tup, b_addI, b_subI, b_addB, b_subB, b_subIB, bw_con, tw_con, et_con, bw_glob, tw_glob, et_glob, bw_bin, tw_bin, et_bin, bw_neg, tw_neg, et_neg, bw_nt, tw_nt, bw_and, tw_and, bw_or, tw_or, bw_cmp, tw_cmp, et_cmp, bw_chain, tw_chain, et_chain, bw_ife, tw_ife, et_ife, bw_tup, tw_tup, et_tup, bw_lst, tw_lst, et_lst, bw_dnew, tw_dnew, et_dnew, bw_sub, tw_sub, et_sub, bw_slc, tw_slc, et_slc, bw_rev, tw_rev, et_rev, bw_call, tw_call, et_call, bw_callK, tw_callK, et_callK, bw_b1, tw_b1, et_b1, bw_mth, tw_mth, et_mth, bw_mut, tw_mut, et_mut, bw_isi, tw_isi, et_isi, bw_lc, tw_lc, et_lc, bw_sset, tw_sset, et_sset, et_var, List.getElem?_cons_zero, List.getElem?_cons_succ, List.set_cons_zero, List.set_cons_succ, List.length_cons, List.length_nil, Option.map_some, if_true, if_false, Bool.false_eq_true, Nat.zero_add, Nat.reduceAdd, Nat.reduceLT, Nat.reduceLeDiff, List.zip_cons_cons, List.zip_nil_left, List.zip_nil_right, List.foldl_cons, List.foldl_nil, Bool.not_true, Bool.not_false, decide_true, decide_false, fl_hit, miss2, line_eq m a d w (h1 d hd) (Nat.le_trans (sz_mem hd) hn)]
          simp only [exSs_cons, exSs_nil, exS_ret, exS_retN, exS_asg, exS_asgO, exS_asgT, exS_par2, exS_ex, exS_ifs, exS_for, for_nil, for_cons, fo_some, fr_nx, fr_rt, as_nm, as_tup, ev_var, ev_con, ev_bin, ev_cmp, ev_chain, ev_nt, ev_and, ev_or, ev_ife, ev_tup, ev_lst, ev_dnew, ev_sub, ev_slc, ev_rev, ev_call, ev_callK, ev_b1, ev_mut, ev_isi, evs_nil, evs_cons, evO_nil, evO_one, evT_and, evT_or, evT_nt, evI_val, evI_range1, evTs_nil, evTs_one, q_bind, q_bindS, q_of, q_at, q_rw, q_seq_nx, q_seq_rt, q_var, vd_dat, vd_own, q_rd, rdo_dat, rdo_own, q_brw_var, thV_some, twV_some, q_two_var, q_and, q_or, q_chain, q_callD, q_callKD, kiR_some, q_b1F, q_b1, q_isi, q_mut, q_ownK, oko_own, kindD, q_mutD, mdo_own, mdr_some, g_fn, g_ki, g_tru, g_cmp, g_bin, gg_get, g_slc, g_rev, g_it, g_isi_int, g_isi_bool, g_isi_str, g_isi_tuple, g_isi_list, g_bF_len, g_bF_repr, g_bF_max, g_bF_str, g_bF_int, g_bF_tuple, g_bF_all, g_bF_any, g_bF_list, g_b1_len, g_b1_repr, g_b1_max, g_b1_str, g_b1_int, g_b1_tuple, g_b1_all, g_mu_append, k_tbl, c_eqI, c_neI, c_ltI, c_gtI, c_geI, c_leI, c_eqL, c_neL, c_eqT, c_neT, c_isB, c_notB, c_eqS, ownD, asgL, t_bl, t_non, t_lst, t_tup, n_str, n_lst, n_tup, tu_lst, li_tup, li_lst, i_int, i1_int, it_lst, it_tup, rv_tup, at_tup, o_some, g_tupL, g_lstL, sl_tup, b_addI, b_subI, b_addB, b_subB, b_subIB, bw_con, tw_con, et_con, bw_glob, tw_glob, et_glob, bw_bin, tw_bin, et_bin, bw_neg, tw_neg, et_neg, bw_nt, tw_nt, bw_and, tw_and, bw_or, tw_or, bw_cmp, tw_cmp, et_cmp, bw_chain, tw_chain, et_chain, bw_ife, tw_ife, et_ife, bw_tup, tw_tup, et_tup, bw_lst, tw_lst, et_lst, bw_dnew, tw_dnew, et_dnew, bw_sub, tw_sub, et_sub, bw_slc, tw_slc, et_slc, bw_rev, tw_rev, et_rev, bw_call, tw_call, et_call, bw_callK, tw_callK, et_callK, bw_b1, tw_b1, et_b1, bw_mth, tw_mth, et_mth, bw_mut, tw_mut, et_mut, bw_isi, tw_isi, et_isi, bw_lc, tw_lc, et_lc, bw_sset, tw_sset, et_sset, et_var, List.getElem?_cons_zero, List.getElem?_cons_succ, List.set_cons_zero, List.set_cons_succ, List.length_cons, List.length_nil, Option.map_some, if_true, if_false, Bool.false_eq_true, Nat.zero_add, Nat.reduceAdd, Nat.reduceLT, Nat.reduceLeDiff, List.zip_cons_cons, List.zip_nil_left, List.zip_nil_right, List.foldl_cons, List.foldl_nil, Bool.not_true, Bool.not_false, decide_true, decide_false, hk, tupB, ev_lc, List.map_cons, List.map_nil, hlc, tabB, ha, List.nil_append, List.map_id', filt_not, Bool.true_and]
          cases ns.all (rowB m a) <;> simp only [exSs_cons, exSs_nil, exS_ret, exS_retN, exS_asg, exS_asgO, exS_asgT, exS_par2, exS_ex, exS_ifs, exS_for, for_nil, for_cons, fo_some, fr_nx, fr_rt, as_nm, as_tup, ev_var, ev_con, ev_bin, ev_cmp, ev_chain, ev_nt, ev_and, ev_or, ev_ife, ev_tup, ev_lst, ev_dnew, ev_sub, ev_slc, ev_rev, ev_call, ev_callK, ev_b1, ev_mut, ev_isi, evs_nil, evs_cons, evO_nil, evO_one, evT_and, evT_or, evT_nt, evI_val, evI_range1, evTs_nil, evTs_one, q_bind, q_bindS, q_of, q_at, q_rw, q_seq_nx, q_seq_rt, q_var, vd_dat, vd_own, q_rd, rdo_dat, rdo_own, q_brw_var, thV_some, twV_some, q_two_var, q_and, q_or, q_chain, q_callD, q_callKD, kiR_some, q_b1F, q_b1, q_isi, q_mut, q_ownK, oko_own, kindD, q_mutD, mdo_own, mdr_some, g_fn, g_ki, g_tru, g_cmp, g_bin, gg_get, g_slc, g_rev, g_it, g_isi_int, g_isi_bool, g_isi_str, g_isi_tuple, g_isi_list, g_bF_len, g_bF_repr, g_bF_max, g_bF_str, g_bF_int, g_bF_tuple, g_bF_all, g_bF_any, g_bF_list, g_b1_len, g_b1_repr, g_b1_max, g_b1_str, g_b1_int, g_b1_tuple, g_b1_all, g_mu_append, k_tbl, c_eqI, c_neI, c_ltI, c_gtI, c_geI, c_leI, c_eqL, c_neL, c_eqT, c_neT, c_isB, c_notB, c_eqS, ownD, asgL, t_bl, t_non, t_lst, t_tup, n_str, n_lst, n_tup, tu_lst, li_tup, li_lst, i_int, i1_int, it_lst, it_tup, rv_tup, at_tup, o_some, g_tupL, g_lstL, sl_tup, b_addI, b_subI, b_addB, b_subB, b_subIB, bw_con, tw_con, et_con, bw_glob, tw_glob, et_glob, bw_bin, tw_bin, et_bin, bw_neg, tw_neg, et_neg, bw_nt, tw_nt, bw_and, tw_and, bw_or, tw_or, bw_cmp, tw_cmp, et_cmp, bw_chain, tw_chain, et_chain, bw_ife, tw_ife, et_ife, bw_tup, tw_tup, et_tup, bw_lst, tw_lst, et_lst, bw_dnew, tw_dnew, et_dnew, bw_sub, tw_sub, et_sub, bw_slc, tw_slc, et_slc, bw_rev, tw_rev, et_rev, bw_call, tw_call, et_call, bw_callK, tw_callK, et_callK, bw_b1, tw_b1, et_b1, bw_mth, tw_mth, et_mth, bw_mut, tw_mut, et_mut, bw_isi, tw_isi, et_isi, bw_lc, tw_lc, et_lc, bw_sset, tw_sset, et_sset, et_var, List.getElem?_cons_zero, List.getElem?_cons_succ, List.set_cons_zero, List.set_cons_succ, List.length_cons, List.length_nil, Option.map_some, if_true, if_false, Bool.false_eq_true, Nat.zero_add, Nat.reduceAdd, Nat.reduceLT, Nat.reduceLeDiff, List.zip_cons_cons, List.zip_nil_left, List.zip_nil_right, List.foldl_cons, List.foldl_nil, Bool.not_true, Bool.not_false, decide_true, decide_false]
        · simp only [exSs_cons, exSs_nil, exS_ret, exS_retN, exS_asg, exS_asgO, exS_asgT, exS_par2, exS_ex, exS_ifs, exS_for, for_nil, for_cons, fo_some, fr_nx, fr_rt, as_nm, as_tup, ev_var, ev_con, ev_bin, ev_cmp, ev_chain, ev_nt, ev_and, ev_or, ev_ife, ev_tup, ev_lst, ev_dnew, ev_sub, ev_slc, ev_rev, ev_call, ev_callK, ev_b1, ev_mut, ev_isi, evs_nil, evs_cons, evO_nil, evO_one, evT_and, evT_or, evT_nt, evI_val, evI_range1, evTs_nil, evTs_one, q_bind, q_bindS, q_of, q_at, q_rw, q_seq_nx, q_seq_rt, q_var, vd_dat, vd_own, q_rd, rdo_dat, rdo_own, q_brw_var, thV_some, twV_some, q_two_var, q_and, q_or, q_chain, q_callD, q_callKD, kiR_some, q_b1F, q_b1, q_isi, q_mut, q_ownK, oko_own, kindD, q_mutD, mdo_own, mdr_some, g_fn, g_ki, g_tru, g_cmp, g_bin, gg_get, g_slc, g_rev, g_it, g_isi_int, g_isi_bool, g_isi_str, g_isi_tuple, g_isi_list, g_bF_len, g_bF_repr, g_bF_max, g_bF_str, g_bF_int, g_bF_tuple, g_bF_all, g_bF_any, g_bF_list, g_b1_len, g_b1_repr, g_b1_max, g_b1_str, g_b1_int, g_b1_tuple, g_b1_all, g_mu_append, k_tbl, c_eqI, c_neI, c_ltI, c_gtI, c_geI, c_leI, c_eqL, c_neL, c_eqT, c_neT, c_isB, c_notB, c_eqS, ownD, asgL, t_bl, t_non, t_lst, t_tup, n_str, n_lst, n_tup, tu_lst, li_tup, li_lst, i_int, i1_int, it_lst, it_tup, rv_tup, at_tup, o_some, g_tupL, g_lstL, sl_tup, b_addI, b_subI, b_addB, b_subB, b_subIB, bw_con, tw_con, et_con, bw_glob, tw_glob, et_glob, bw_bin, tw_bin, et_bin, bw_neg, tw_neg, et_neg, bw_nt, tw_nt, bw_and, tw_and, bw_or, tw_or, bw_cmp, tw_cmp, et_cmp, bw_chain, tw_chain, et_chain, bw_ife, tw_ife, et_ife, bw_tup, tw_tup, et_tup, bw_lst, tw_lst, et_lst, bw_dnew, tw_dnew, et_dnew, bw_sub, tw_sub, et_sub, bw_slc, tw_slc, et_slc, bw_rev, tw_rev, et_rev, bw_call, tw_call, et_call, bw_callK, tw_callK, et_callK, bw_b1, tw_b1, et_b1, bw_mth, tw_mth, et_mth, bw_mut, tw_mut, et_mut, bw_isi, tw_isi, et_isi, bw_lc, tw_lc, et_lc, bw_sset, tw_sset, et_sset, et_var, List.getElem?_cons_zero, List.getElem?_cons_succ, List.set_cons_zero, List.set_cons_succ, List.length_cons, List.length_nil, Option.map_some, if_true, if_false, Bool.false_eq_true, Nat.zero_add, Nat.reduceAdd, Nat.reduceLT, Nat.reduceLeDiff, List.zip_cons_cons, List.zip_nil_left, List.zip_nil_right, List.foldl_cons, List.foldl_nil, Bool.not_true, Bool.not_false, decide_true, decide_false, hk, tupB, tabB, ha, Bool.false_and]
      all_goals simp only [exSs_cons, exSs_nil, exS_ret, exS_retN, exS_asg, exS_asgO, exS_asgT, exS_par2, exS_ex, exS_ifs, exS_for, for_nil, for_cons, fo_some, fr_nx, fr_rt, as_nm, as_tup, ev_var, ev_con, ev_bin, ev_cmp, ev_chain, ev_nt, ev_and, ev_or, ev_ife, ev_tup, ev_lst, ev_dnew, ev_sub, ev_slc, ev_rev, ev_call, ev_callK, ev_b1, ev_mut, ev_isi, evs_nil, evs_cons, evO_nil, evO_one, evT_and, evT_or, evT_nt, evI_val, evI_range1, evTs_nil, evTs_one, q_bind, q_bindS, q_of, q_at, q_rw, q_seq_nx, q_seq_rt, q_var, vd_dat, vd_own, q_rd, rdo_dat, rdo_own, q_brw_var, thV_some, twV_some, q_two_var, q_and, q_or, q_chain, q_callD, q_callKD, kiR_some, q_b1F, q_b1, q_isi, q_mut, q_ownK, oko_own, kindD, q_mutD, mdo_own, mdr_some, g_fn, g_ki, g_tru, g_cmp, g_bin, gg_get, g_slc, g_rev, g_it, g_isi_int, g_isi_bool, g_isi_str, g_isi_tuple, g_isi_list, g_bF_len, g_bF_repr, g_bF_max, g_bF_str, g_bF_int, g_bF_tuple, g_bF_all, g_bF_any, g_bF_list, g_b1_len, g_b1_repr, g_b1_max, g_b1_str, g_b1_int, g_b1_tuple, g_b1_all, g_mu_append, k_tbl, c_eqI, c_neI, c_ltI, c_gtI, c_geI, c_leI, c_eqL, c_neL, c_eqT, c_neT, c_isB, c_notB, c_eqS, ownD, asgL, t_bl, t_non, t_lst, t_tup, n_str, n_lst, n_tup, tu_lst, li_tup, li_lst, i_int, i1_int, it_lst, it_tup, rv_tup, at_tup, o_some, g_tupL, g_lstL, sl_tup, b_addI, b_subI, b_addB, b_subB, b_subIB, bw_con, tw_con, et_con, bw_glob, tw_glob, et_glob, bw_bin, tw_bin, et_bin, bw_neg, tw_neg, et_neg, bw_nt, tw_nt, bw_and, tw_and, bw_or, tw_or, bw_cmp, tw_cmp, et_cmp, bw_chain, tw_chain, et_chain, bw_ife, tw_ife, et_ife, bw_tup, tw_tup, et_tup, bw_lst, tw_lst, et_lst, bw_dnew, tw_dnew, et_dnew, bw_sub, tw_sub, et_sub, bw_slc, tw_slc, et_slc, bw_rev, tw_rev, et_rev, bw_call, tw_call, et_call, bw_callK, tw_callK, et_callK, bw_b1, tw_b1, et_b1, bw_mth, tw_mth, et_mth, bw_mut, tw_mut, et_mut, bw_isi, tw_isi, et_isi, bw_lc, tw_lc, et_lc, bw_sset, tw_sset, et_sset, et_var, List.getElem?_cons_zero, List.getElem?_cons_succ, List.set_cons_zero, List.set_cons_succ, List.length_cons, List.length_nil, Option.map_some, if_true, if_false, Bool.false_eq_true, Nat.zero_add, Nat.reduceAdd, Nat.reduceLT, Nat.reduceLeDiff, List.zip_cons_cons, List.zip_nil_left, List.zip_nil_right, List.foldl_cons, List.foldl_nil, Bool.not_true, Bool.not_false, decide_true, decide_false, hk, tupB, tabB]
    rw [for_cons, as_nm, fo_some]
    simp only [List.set_cons_zero, List.set_cons_succ]
    rw [turn, List.all_cons]
    cases tabB m a b d with
    | true => simp only [exSs_cons, exSs_nil, exS_ret, exS_retN, exS_asg, exS_asgO, exS_asgT, exS_par2, exS_ex, exS_ifs, exS_for, for_nil, for_cons, fo_some, fr_nx, fr_rt, as_nm, as_tup, ev_var, ev_con, ev_bin, ev_cmp, ev_chain, ev_nt, ev_and, ev_or, ev_ife, ev_tup, ev_lst, ev_dnew, ev_sub, ev_slc, ev_rev, ev_call, ev_callK, ev_b1, ev_mut, ev_isi, evs_nil, evs_cons, evO_nil, evO_one, evT_and, evT_or, evT_nt, evI_val, evI_range1, evTs_nil, evTs_one, q_bind, q_bindS, q_of, q_at, q_rw, q_seq_nx, q_seq_rt, q_var, vd_dat, vd_own, q_rd, rdo_dat, rdo_own, q_brw_var, thV_some, twV_some, q_two_var, q_and, q_or, q_chain, q_callD, q_callKD, kiR_some, q_b1F, q_b1, q_isi, q_mut, q_ownK, oko_own, kindD, q_mutD, mdo_own, mdr_some, g_fn, g_ki, g_tru, g_cmp, g_bin, gg_get, g_slc, g_rev, g_it, g_isi_int, g_isi_bool, g_isi_str, g_isi_tuple, g_isi_list, g_bF_len, g_bF_repr, g_bF_max, g_bF_str, g_bF_int, g_bF_tuple, g_bF_all, g_bF_any, g_bF_list, g_b1_len, g_b1_repr, g_b1_max, g_b1_str, g_b1_int, g_b1_tuple, g_b1_all, g_mu_append, k_tbl, c_eqI, c_neI, c_ltI, c_gtI, c_geI, c_leI, c_eqL, c_neL, c_eqT, c_neT, c_isB, c_notB, c_eqS, ownD, asgL, t_bl, t_non, t_lst, t_tup, n_str, n_lst, n_tup, tu_lst, li_tup, li_lst, i_int, i1_int, it_lst, it_tup, rv_tup, at_tup, o_some, g_tupL, g_lstL, sl_tup, b_addI, b_subI, b_addB, b_subB, b_subIB, bw_con, tw_con, et_con, bw_glob, tw_glob, et_glob, bw_bin, tw_bin, et_bin, bw_neg, tw_neg, et_neg, bw_nt, tw_nt, bw_and, tw_and, bw_or, tw_or, bw_cmp, tw_cmp, et_cmp, bw_chain, tw_chain, et_chain, bw_ife, tw_ife, et_ife, bw_tup, tw_tup, et_tup, bw_lst, tw_lst, et_lst, bw_dnew, tw_dnew, et_dnew, bw_sub, tw_sub, et_sub, bw_slc, tw_slc, et_slc, bw_rev, tw_rev, et_rev, bw_call, tw_call, et_call, bw_callK, tw_callK, et_callK, bw_b1, tw_b1, et_b1, bw_mth, tw_mth, et_mth, bw_mut, tw_mut, et_mut, bw_isi, tw_isi, et_isi, bw_lc, tw_lc, et_lc, bw_sset, tw_sset, et_sset, et_var, List.getElem?_cons_zero, List.getElem?_cons_succ, List.set_cons_zero, List.set_cons_succ, List.length_cons, List.length_nil, Option.map_some, if_true, if_false, Bool.false_eq_true, Nat.zero_add, Nat.reduceAdd, Nat.reduceLT, Nat.reduceLeDiff, List.zip_cons_cons, List.zip_nil_left, List.zip_nil_right, List.foldl_cons, List.foldl_nil, Bool.not_true, Bool.not_false, decide_true, decide_false, Bool.true_and, e]
    | false => simp only [exSs_cons, exSs_nil, exS_ret, exS_retN, exS_asg, exS_asgO, exS_asgT, exS_par2, exS_ex, exS_ifs, exS_for, for_nil, for_cons, fo_some, fr_nx, fr_rt, as_nm, as_tup, ev_var, ev_con, ev_bin, ev_cmp, ev_chain, ev_nt, ev_and, ev_or, ev_ife, ev_tup, ev_lst, ev_dnew, ev_sub, ev_slc, ev_rev, ev_call, ev_callK, ev_b1, ev_mut, ev_isi, evs_nil, evs_cons, evO_nil, evO_one, evT_and, evT_or, evT_nt, evI_val, evI_range1, evTs_nil, evTs_one, q_bind, q_bindS, q_of, q_at, q_rw, q_seq_nx, q_seq_rt, q_var, vd_dat, vd_own, q_rd, rdo_dat, rdo_own, q_brw_var, thV_some, twV_some, q_two_var, q_and, q_or, q_chain, q_callD, q_callKD, kiR_some, q_b1F, q_b1, q_isi, q_mut, q_ownK, oko_own, kindD, q_mutD, mdo_own, mdr_some, g_fn, g_ki, g_tru, g_cmp, g_bin, gg_get, g_slc, g_rev, g_it, g_isi_int, g_isi_bool, g_isi_str, g_isi_tuple, g_isi_list, g_bF_len, g_bF_repr, g_bF_max, g_bF_str, g_bF_int, g_bF_tuple, g_bF_all, g_bF_any, g_bF_list, g_b1_len, g_b1_repr, g_b1_max, g_b1_str, g_b1_int, g_b1_tuple, g_b1_all, g_mu_append, k_tbl, c_eqI, c_neI, c_ltI, c_gtI, c_geI, c_leI, c_eqL, c_neL, c_eqT, c_neT, c_isB, c_notB, c_eqS, ownD, asgL, t_bl, t_non, t_lst, t_tup, n_str, n_lst, n_tup, tu_lst, li_tup, li_lst, i_int, i1_int, it_lst, it_tup, rv_tup, at_tup, o_some, g_tupL, g_lstL, sl_tup, b_addI, b_subI, b_addB, b_subB, b_subIB, bw_con, tw_con, et_con, bw_glob, tw_glob, et_glob, bw_bin, tw_bin, et_bin, bw_neg, tw_neg, et_neg, bw_nt, tw_nt, bw_and, tw_and, bw_or, tw_or, bw_cmp, tw_cmp, et_cmp, bw_chain, tw_chain, et_chain, bw_ife, tw_ife, et_ife, bw_tup, tw_tup, et_tup, bw_lst, tw_lst, et_lst, bw_dnew, tw_dnew, et_dnew, bw_sub, tw_sub, et_sub, bw_slc, tw_slc, et_slc, bw_rev, tw_rev, et_rev, bw_call, tw_call, et_call, bw_callK, tw_callK, et_callK, bw_b1, tw_b1, et_b1, bw_mth, tw_mth, et_mth, bw_mut, tw_mut, et_mut, bw_isi, tw_isi, et_isi, bw_lc, tw_lc, et_lc, bw_sset, tw_sset, et_sset, et_var, List.getElem?_cons_zero, List.getElem?_cons_succ, List.set_cons_zero, List.set_cons_succ, List.length_cons, List.length_nil, Option.map_some, if_true, if_false, Bool.false_eq_true, Nat.zero_add, Nat.reduceAdd, Nat.reduceLT, Nat.reduceLeDiff, List.zip_cons_cons, List.zip_nil_left, List.zip_nil_right, List.foldl_cons, List.foldl_nil, Bool.not_true, Bool.not_false, decide_true, decide_false, Bool.false_and]
theorem b_shade_is : b_l_is_shade = (.cons (.ifs (.or (.nt (.isi (.var "_law_it" 1) "tuple")) (.cmp .NotEq (.b1 "len" (.var "_law_it" 1)) (.con (.int 4)))) (.cons (.ret (.con (.bl false))) .nil) .nil) (.cons (.asgT [("_law_base", 2), ("_law_wide", 3), ("_law_tall", 4), ("_law_tables_here", 5)] false (.var "_law_it" 1)) (.cons (.for_ (.tup [("_law_part_now", 6), ("_law_least", 7)]) (.val (.tup (.cons (.tup (.cons (.var "_law_base" 2) (.cons (.con (.int 2)) .nil))) (.cons (.tup (.cons (.var "_law_wide" 3) (.cons (.con (.int 1)) .nil))) (.cons (.tup (.cons (.var "_law_tall" 4) (.cons (.con (.int 1)) .nil))) .nil))))) (.cons (.ifs (.or (.nt (.call "_law_is_whole" (.cons (.var "_law_part_now" 6) .nil))) (.cmp .Lt (.var "_law_part_now" 6) (.var "_law_least" 7))) (.cons (.ret (.con (.bl false))) .nil) .nil) .nil)) (.cons (.ifs (.or (.nt (.isi (.var "_law_tables_here" 5) "tuple")) (.cmp .NotEq (.b1 "len" (.var "_law_tables_here" 5)) (.b1 "len" (.var "_law_signs" 0)))) (.cons (.ret (.con (.bl false))) .nil) .nil) (.cons (.for_ (.nm "_law_table" 8) (.val (.var "_law_tables_here" 5)) tabBody) (.cons (.ret (.con (.bl true))) .nil)))))) := rfl
theorem shade_eq (s : Str) (d : D) (w : DW) (h : lv d = true) (hs : sz d ≤ 100000) : F_shade [.str s, d] w = .ok (.bl (colB s.length d)) w := by
  refine q_run rfl ?_
  show exSs _ b_l_is_shade [.dat (.str s), .dat d, .emp, .emp, .emp, .emp, .emp, .emp, .emp, .emp] w = _
  rw [b_shade_is]
  have hk := k_tuple (lv_okT h)
  cases d <;> first | (exact absurd h Bool.false_ne_true) | skip
  case tup ns =>
    rw [lv] at h
    have hn : szs ns ≤ 100000 := by
      simp only [sz] at hs
      omega
    by_cases hl : ns.length = 4
    · match ns, hl, h, hn, hk with
      | [m, a, b, t], hl4, h, hn, hk =>
        clear hl4
        simp only [lvs, Bool.and_eq_true] at h
        obtain ⟨h1, h2, h3, h4, _⟩ := h
        have z1 : ∀ w, F_whole [m] w = .ok (.bl (isI m)) w := fun w => whole_eq m w (lv_okT h1)
        have z2 : ∀ w, F_whole [a] w = .ok (.bl (isI a)) w := fun w => whole_eq a w (lv_okT h2)
        have z3 : ∀ w, F_whole [b] w = .ok (.bl (isI b)) w := fun w => whole_eq b w (lv_okT h3)
        simp only [exSs_cons, exSs_nil, exS_ret, exS_retN, exS_asg, exS_asgO, exS_asgT, exS_par2, exS_ex, exS_ifs, exS_for, for_nil, for_cons, fo_some, fr_nx, fr_rt, as_nm, as_tup, ev_var, ev_con, ev_bin, ev_cmp, ev_chain, ev_nt, ev_and, ev_or, ev_ife, ev_tup, ev_lst, ev_dnew, ev_sub, ev_slc, ev_rev, ev_call, ev_callK, ev_b1, ev_mut, ev_isi, evs_nil, evs_cons, evO_nil, evO_one, evT_and, evT_or, evT_nt, evI_val, evI_range1, evTs_nil, evTs_one, q_bind, q_bindS, q_of, q_at, q_rw, q_seq_nx, q_seq_rt, q_var, vd_dat, vd_own, q_rd, rdo_dat, rdo_own, q_brw_var, thV_some, twV_some, q_two_var, q_and, q_or, q_chain, q_callD, q_callKD, kiR_some, q_b1F, q_b1, q_isi, q_mut, q_ownK, oko_own, kindD, q_mutD, mdo_own, mdr_some, g_fn, g_ki, g_tru, g_cmp, g_bin, gg_get, g_slc, g_rev, g_it, g_isi_int, g_isi_bool, g_isi_str, g_isi_tuple, g_isi_list, g_bF_len, g_bF_repr, g_bF_max, g_bF_str, g_bF_int, g_bF_tuple, g_bF_all, g_bF_any, g_bF_list, g_b1_len, g_b1_repr, g_b1_max, g_b1_str, g_b1_int, g_b1_tuple, g_b1_all, g_mu_append, k_tbl, c_eqI, c_neI, c_ltI, c_gtI, c_geI, c_leI, c_eqL, c_neL, c_eqT, c_neT, c_isB, c_notB, c_eqS, ownD, asgL, t_bl, t_non, t_lst, t_tup, n_str, n_lst, n_tup, tu_lst, li_tup, li_lst, i_int, i1_int, it_lst, it_tup, rv_tup, at_tup, o_some, g_tupL, g_lstL, sl_tup, b_addI, b_subI, b_addB, b_subB, b_subIB, bw_con, tw_con, et_con, bw_glob, tw_glob, et_glob, bw_bin, tw_bin, et_bin, bw_neg, tw_neg, et_neg, bw_nt, tw_nt, bw_and, tw_and, bw_or, tw_or, bw_cmp, tw_cmp, et_cmp, bw_chain, tw_chain, et_chain, bw_ife, tw_ife, et_ife, bw_tup, tw_tup, et_tup, bw_lst, tw_lst, et_lst, bw_dnew, tw_dnew, et_dnew, bw_sub, tw_sub, et_sub, bw_slc, tw_slc, et_slc, bw_rev, tw_rev, et_rev, bw_call, tw_call, et_call, bw_callK, tw_callK, et_callK, bw_b1, tw_b1, et_b1, bw_mth, tw_mth, et_mth, bw_mut, tw_mut, et_mut, bw_isi, tw_isi, et_isi, bw_lc, tw_lc, et_lc, bw_sset, tw_sset, et_sset, et_var, List.getElem?_cons_zero, List.getElem?_cons_succ, List.set_cons_zero, List.set_cons_succ, List.length_cons, List.length_nil, Option.map_some, if_true, if_false, Bool.false_eq_true, Nat.zero_add, Nat.reduceAdd, Nat.reduceLT, Nat.reduceLeDiff, List.zip_cons_cons, List.zip_nil_left, List.zip_nil_right, List.foldl_cons, List.foldl_nil, Bool.not_true, Bool.not_false, decide_true, decide_false, hk, tupB, z1, z2, z3, fl_hit, d44]
        cases m <;> simp only [exSs_cons, exSs_nil, exS_ret, exS_retN, exS_asg, exS_asgO, exS_asgT, exS_par2, exS_ex, exS_ifs, exS_for, for_nil, for_cons, fo_some, fr_nx, fr_rt, as_nm, as_tup, ev_var, ev_con, ev_bin, ev_cmp, ev_chain, ev_nt, ev_and, ev_or, ev_ife, ev_tup, ev_lst, ev_dnew, ev_sub, ev_slc, ev_rev, ev_call, ev_callK, ev_b1, ev_mut, ev_isi, evs_nil, evs_cons, evO_nil, evO_one, evT_and, evT_or, evT_nt, evI_val, evI_range1, evTs_nil, evTs_one, q_bind, q_bindS, q_of, q_at, q_rw, q_seq_nx, q_seq_rt, q_var, vd_dat, vd_own, q_rd, rdo_dat, rdo_own, q_brw_var, thV_some, twV_some, q_two_var, q_and, q_or, q_chain, q_callD, q_callKD, kiR_some, q_b1F, q_b1, q_isi, q_mut, q_ownK, oko_own, kindD, q_mutD, mdo_own, mdr_some, g_fn, g_ki, g_tru, g_cmp, g_bin, gg_get, g_slc, g_rev, g_it, g_isi_int, g_isi_bool, g_isi_str, g_isi_tuple, g_isi_list, g_bF_len, g_bF_repr, g_bF_max, g_bF_str, g_bF_int, g_bF_tuple, g_bF_all, g_bF_any, g_bF_list, g_b1_len, g_b1_repr, g_b1_max, g_b1_str, g_b1_int, g_b1_tuple, g_b1_all, g_mu_append, k_tbl, c_eqI, c_neI, c_ltI, c_gtI, c_geI, c_leI, c_eqL, c_neL, c_eqT, c_neT, c_isB, c_notB, c_eqS, ownD, asgL, t_bl, t_non, t_lst, t_tup, n_str, n_lst, n_tup, tu_lst, li_tup, li_lst, i_int, i1_int, it_lst, it_tup, rv_tup, at_tup, o_some, g_tupL, g_lstL, sl_tup, b_addI, b_subI, b_addB, b_subB, b_subIB, bw_con, tw_con, et_con, bw_glob, tw_glob, et_glob, bw_bin, tw_bin, et_bin, bw_neg, tw_neg, et_neg, bw_nt, tw_nt, bw_and, tw_and, bw_or, tw_or, bw_cmp, tw_cmp, et_cmp, bw_chain, tw_chain, et_chain, bw_ife, tw_ife, et_ife, bw_tup, tw_tup, et_tup, bw_lst, tw_lst, et_lst, bw_dnew, tw_dnew, et_dnew, bw_sub, tw_sub, et_sub, bw_slc, tw_slc, et_slc, bw_rev, tw_rev, et_rev, bw_call, tw_call, et_call, bw_callK, tw_callK, et_callK, bw_b1, tw_b1, et_b1, bw_mth, tw_mth, et_mth, bw_mut, tw_mut, et_mut, bw_isi, tw_isi, et_isi, bw_lc, tw_lc, et_lc, bw_sset, tw_sset, et_sset, et_var, List.getElem?_cons_zero, List.getElem?_cons_succ, List.set_cons_zero, List.set_cons_succ, List.length_cons, List.length_nil, Option.map_some, if_true, if_false, Bool.false_eq_true, Nat.zero_add, Nat.reduceAdd, Nat.reduceLT, Nat.reduceLeDiff, List.zip_cons_cons, List.zip_nil_left, List.zip_nil_right, List.foldl_cons, List.foldl_nil, Bool.not_true, Bool.not_false, decide_true, decide_false, isI, colB, d44, z2, fl_hit]
        case int m =>
        have hf : ∀ x y : Int, x < y → decide (y ≤ x) = false := fun x y h => by simp; omega
        have ht : ∀ x y : Int, ¬ x < y → decide (y ≤ x) = true := fun x y h => by simp; omega
        by_cases c1 : m < 2
        · simp only [exSs_cons, exSs_nil, exS_ret, exS_retN, exS_asg, exS_asgO, exS_asgT, exS_par2, exS_ex, exS_ifs, exS_for, for_nil, for_cons, fo_some, fr_nx, fr_rt, as_nm, as_tup, ev_var, ev_con, ev_bin, ev_cmp, ev_chain, ev_nt, ev_and, ev_or, ev_ife, ev_tup, ev_lst, ev_dnew, ev_sub, ev_slc, ev_rev, ev_call, ev_callK, ev_b1, ev_mut, ev_isi, evs_nil, evs_cons, evO_nil, evO_one, evT_and, evT_or, evT_nt, evI_val, evI_range1, evTs_nil, evTs_one, q_bind, q_bindS, q_of, q_at, q_rw, q_seq_nx, q_seq_rt, q_var, vd_dat, vd_own, q_rd, rdo_dat, rdo_own, q_brw_var, thV_some, twV_some, q_two_var, q_and, q_or, q_chain, q_callD, q_callKD, kiR_some, q_b1F, q_b1, q_isi, q_mut, q_ownK, oko_own, kindD, q_mutD, mdo_own, mdr_some, g_fn, g_ki, g_tru, g_cmp, g_bin, gg_get, g_slc, g_rev, g_it, g_isi_int, g_isi_bool, g_isi_str, g_isi_tuple, g_isi_list, g_bF_len, g_bF_repr, g_bF_max, g_bF_str, g_bF_int, g_bF_tuple, g_bF_all, g_bF_any, g_bF_list, g_b1_len, g_b1_repr, g_b1_max, g_b1_str, g_b1_int, g_b1_tuple, g_b1_all, g_mu_append, k_tbl, c_eqI, c_neI, c_ltI, c_gtI, c_geI, c_leI, c_eqL, c_neL, c_eqT, c_neT, c_isB, c_notB, c_eqS, ownD, asgL, t_bl, t_non, t_lst, t_tup, n_str, n_lst, n_tup, tu_lst, li_tup, li_lst, i_int, i1_int, it_lst, it_tup, rv_tup, at_tup, o_some, g_tupL, g_lstL, sl_tup, b_addI, b_subI, b_addB, b_subB, b_subIB, bw_con, tw_con, et_con, bw_glob, tw_glob, et_glob, bw_bin, tw_bin, et_bin, bw_neg, tw_neg, et_neg, bw_nt, tw_nt, bw_and, tw_and, bw_or, tw_or, bw_cmp, tw_cmp, et_cmp, bw_chain, tw_chain, et_chain, bw_ife, tw_ife, et_ife, bw_tup, tw_tup, et_tup, bw_lst, tw_lst, et_lst, bw_dnew, tw_dnew, et_dnew, bw_sub, tw_sub, et_sub, bw_slc, tw_slc, et_slc, bw_rev, tw_rev, et_rev, bw_call, tw_call, et_call, bw_callK, tw_callK, et_callK, bw_b1, tw_b1, et_b1, bw_mth, tw_mth, et_mth, bw_mut, tw_mut, et_mut, bw_isi, tw_isi, et_isi, bw_lc, tw_lc, et_lc, bw_sset, tw_sset, et_sset, et_var, List.getElem?_cons_zero, List.getElem?_cons_succ, List.set_cons_zero, List.set_cons_succ, List.length_cons, List.length_nil, Option.map_some, if_true, if_false, Bool.false_eq_true, Nat.zero_add, Nat.reduceAdd, Nat.reduceLT, Nat.reduceLeDiff, List.zip_cons_cons, List.zip_nil_left, List.zip_nil_right, List.foldl_cons, List.foldl_nil, Bool.not_true, Bool.not_false, decide_true, decide_false, c1]
          cases a <;> try simp only [colB]
          cases b <;> try simp only [colB]
          cases t <;> simp only [colB, hf _ _ c1, Bool.false_and]
        simp only [exSs_cons, exSs_nil, exS_ret, exS_retN, exS_asg, exS_asgO, exS_asgT, exS_par2, exS_ex, exS_ifs, exS_for, for_nil, for_cons, fo_some, fr_nx, fr_rt, as_nm, as_tup, ev_var, ev_con, ev_bin, ev_cmp, ev_chain, ev_nt, ev_and, ev_or, ev_ife, ev_tup, ev_lst, ev_dnew, ev_sub, ev_slc, ev_rev, ev_call, ev_callK, ev_b1, ev_mut, ev_isi, evs_nil, evs_cons, evO_nil, evO_one, evT_and, evT_or, evT_nt, evI_val, evI_range1, evTs_nil, evTs_one, q_bind, q_bindS, q_of, q_at, q_rw, q_seq_nx, q_seq_rt, q_var, vd_dat, vd_own, q_rd, rdo_dat, rdo_own, q_brw_var, thV_some, twV_some, q_two_var, q_and, q_or, q_chain, q_callD, q_callKD, kiR_some, q_b1F, q_b1, q_isi, q_mut, q_ownK, oko_own, kindD, q_mutD, mdo_own, mdr_some, g_fn, g_ki, g_tru, g_cmp, g_bin, gg_get, g_slc, g_rev, g_it, g_isi_int, g_isi_bool, g_isi_str, g_isi_tuple, g_isi_list, g_bF_len, g_bF_repr, g_bF_max, g_bF_str, g_bF_int, g_bF_tuple, g_bF_all, g_bF_any, g_bF_list, g_b1_len, g_b1_repr, g_b1_max, g_b1_str, g_b1_int, g_b1_tuple, g_b1_all, g_mu_append, k_tbl, c_eqI, c_neI, c_ltI, c_gtI, c_geI, c_leI, c_eqL, c_neL, c_eqT, c_neT, c_isB, c_notB, c_eqS, ownD, asgL, t_bl, t_non, t_lst, t_tup, n_str, n_lst, n_tup, tu_lst, li_tup, li_lst, i_int, i1_int, it_lst, it_tup, rv_tup, at_tup, o_some, g_tupL, g_lstL, sl_tup, b_addI, b_subI, b_addB, b_subB, b_subIB, bw_con, tw_con, et_con, bw_glob, tw_glob, et_glob, bw_bin, tw_bin, et_bin, bw_neg, tw_neg, et_neg, bw_nt, tw_nt, bw_and, tw_and, bw_or, tw_or, bw_cmp, tw_cmp, et_cmp, bw_chain, tw_chain, et_chain, bw_ife, tw_ife, et_ife, bw_tup, tw_tup, et_tup, bw_lst, tw_lst, et_lst, bw_dnew, tw_dnew, et_dnew, bw_sub, tw_sub, et_sub, bw_slc, tw_slc, et_slc, bw_rev, tw_rev, et_rev, bw_call, tw_call, et_call, bw_callK, tw_callK, et_callK, bw_b1, tw_b1, et_b1, bw_mth, tw_mth, et_mth, bw_mut, tw_mut, et_mut, bw_isi, tw_isi, et_isi, bw_lc, tw_lc, et_lc, bw_sset, tw_sset, et_sset, et_var, List.getElem?_cons_zero, List.getElem?_cons_succ, List.set_cons_zero, List.set_cons_succ, List.length_cons, List.length_nil, Option.map_some, if_true, if_false, Bool.false_eq_true, Nat.zero_add, Nat.reduceAdd, Nat.reduceLT, Nat.reduceLeDiff, List.zip_cons_cons, List.zip_nil_left, List.zip_nil_right, List.foldl_cons, List.foldl_nil, Bool.not_true, Bool.not_false, decide_true, decide_false, c1, z2, fl_hit]
        cases a <;> simp only [exSs_cons, exSs_nil, exS_ret, exS_retN, exS_asg, exS_asgO, exS_asgT, exS_par2, exS_ex, exS_ifs, exS_for, for_nil, for_cons, fo_some, fr_nx, fr_rt, as_nm, as_tup, ev_var, ev_con, ev_bin, ev_cmp, ev_chain, ev_nt, ev_and, ev_or, ev_ife, ev_tup, ev_lst, ev_dnew, ev_sub, ev_slc, ev_rev, ev_call, ev_callK, ev_b1, ev_mut, ev_isi, evs_nil, evs_cons, evO_nil, evO_one, evT_and, evT_or, evT_nt, evI_val, evI_range1, evTs_nil, evTs_one, q_bind, q_bindS, q_of, q_at, q_rw, q_seq_nx, q_seq_rt, q_var, vd_dat, vd_own, q_rd, rdo_dat, rdo_own, q_brw_var, thV_some, twV_some, q_two_var, q_and, q_or, q_chain, q_callD, q_callKD, kiR_some, q_b1F, q_b1, q_isi, q_mut, q_ownK, oko_own, kindD, q_mutD, mdo_own, mdr_some, g_fn, g_ki, g_tru, g_cmp, g_bin, gg_get, g_slc, g_rev, g_it, g_isi_int, g_isi_bool, g_isi_str, g_isi_tuple, g_isi_list, g_bF_len, g_bF_repr, g_bF_max, g_bF_str, g_bF_int, g_bF_tuple, g_bF_all, g_bF_any, g_bF_list, g_b1_len, g_b1_repr, g_b1_max, g_b1_str, g_b1_int, g_b1_tuple, g_b1_all, g_mu_append, k_tbl, c_eqI, c_neI, c_ltI, c_gtI, c_geI, c_leI, c_eqL, c_neL, c_eqT, c_neT, c_isB, c_notB, c_eqS, ownD, asgL, t_bl, t_non, t_lst, t_tup, n_str, n_lst, n_tup, tu_lst, li_tup, li_lst, i_int, i1_int, it_lst, it_tup, rv_tup, at_tup, o_some, g_tupL, g_lstL, sl_tup, b_addI, b_subI, b_addB, b_subB, b_subIB, bw_con, tw_con, et_con, bw_glob, tw_glob, et_glob, bw_bin, tw_bin, et_bin, bw_neg, tw_neg, et_neg, bw_nt, tw_nt, bw_and, tw_and, bw_or, tw_or, bw_cmp, tw_cmp, et_cmp, bw_chain, tw_chain, et_chain, bw_ife, tw_ife, et_ife, bw_tup, tw_tup, et_tup, bw_lst, tw_lst, et_lst, bw_dnew, tw_dnew, et_dnew, bw_sub, tw_sub, et_sub, bw_slc, tw_slc, et_slc, bw_rev, tw_rev, et_rev, bw_call, tw_call, et_call, bw_callK, tw_callK, et_callK, bw_b1, tw_b1, et_b1, bw_mth, tw_mth, et_mth, bw_mut, tw_mut, et_mut, bw_isi, tw_isi, et_isi, bw_lc, tw_lc, et_lc, bw_sset, tw_sset, et_sset, et_var, List.getElem?_cons_zero, List.getElem?_cons_succ, List.set_cons_zero, List.set_cons_succ, List.length_cons, List.length_nil, Option.map_some, if_true, if_false, Bool.false_eq_true, Nat.zero_add, Nat.reduceAdd, Nat.reduceLT, Nat.reduceLeDiff, List.zip_cons_cons, List.zip_nil_left, List.zip_nil_right, List.foldl_cons, List.foldl_nil, Bool.not_true, Bool.not_false, decide_true, decide_false, isI, colB, d44, z3, fl_hit]
        case int a =>
        by_cases c2 : a < 1
        · simp only [exSs_cons, exSs_nil, exS_ret, exS_retN, exS_asg, exS_asgO, exS_asgT, exS_par2, exS_ex, exS_ifs, exS_for, for_nil, for_cons, fo_some, fr_nx, fr_rt, as_nm, as_tup, ev_var, ev_con, ev_bin, ev_cmp, ev_chain, ev_nt, ev_and, ev_or, ev_ife, ev_tup, ev_lst, ev_dnew, ev_sub, ev_slc, ev_rev, ev_call, ev_callK, ev_b1, ev_mut, ev_isi, evs_nil, evs_cons, evO_nil, evO_one, evT_and, evT_or, evT_nt, evI_val, evI_range1, evTs_nil, evTs_one, q_bind, q_bindS, q_of, q_at, q_rw, q_seq_nx, q_seq_rt, q_var, vd_dat, vd_own, q_rd, rdo_dat, rdo_own, q_brw_var, thV_some, twV_some, q_two_var, q_and, q_or, q_chain, q_callD, q_callKD, kiR_some, q_b1F, q_b1, q_isi, q_mut, q_ownK, oko_own, kindD, q_mutD, mdo_own, mdr_some, g_fn, g_ki, g_tru, g_cmp, g_bin, gg_get, g_slc, g_rev, g_it, g_isi_int, g_isi_bool, g_isi_str, g_isi_tuple, g_isi_list, g_bF_len, g_bF_repr, g_bF_max, g_bF_str, g_bF_int, g_bF_tuple, g_bF_all, g_bF_any, g_bF_list, g_b1_len, g_b1_repr, g_b1_max, g_b1_str, g_b1_int, g_b1_tuple, g_b1_all, g_mu_append, k_tbl, c_eqI, c_neI, c_ltI, c_gtI, c_geI, c_leI, c_eqL, c_neL, c_eqT, c_neT, c_isB, c_notB, c_eqS, ownD, asgL, t_bl, t_non, t_lst, t_tup, n_str, n_lst, n_tup, tu_lst, li_tup, li_lst, i_int, i1_int, it_lst, it_tup, rv_tup, at_tup, o_some, g_tupL, g_lstL, sl_tup, b_addI, b_subI, b_addB, b_subB, b_subIB, bw_con, tw_con, et_con, bw_glob, tw_glob, et_glob, bw_bin, tw_bin, et_bin, bw_neg, tw_neg, et_neg, bw_nt, tw_nt, bw_and, tw_and, bw_or, tw_or, bw_cmp, tw_cmp, et_cmp, bw_chain, tw_chain, et_chain, bw_ife, tw_ife, et_ife, bw_tup, tw_tup, et_tup, bw_lst, tw_lst, et_lst, bw_dnew, tw_dnew, et_dnew, bw_sub, tw_sub, et_sub, bw_slc, tw_slc, et_slc, bw_rev, tw_rev, et_rev, bw_call, tw_call, et_call, bw_callK, tw_callK, et_callK, bw_b1, tw_b1, et_b1, bw_mth, tw_mth, et_mth, bw_mut, tw_mut, et_mut, bw_isi, tw_isi, et_isi, bw_lc, tw_lc, et_lc, bw_sset, tw_sset, et_sset, et_var, List.getElem?_cons_zero, List.getElem?_cons_succ, List.set_cons_zero, List.set_cons_succ, List.length_cons, List.length_nil, Option.map_some, if_true, if_false, Bool.false_eq_true, Nat.zero_add, Nat.reduceAdd, Nat.reduceLT, Nat.reduceLeDiff, List.zip_cons_cons, List.zip_nil_left, List.zip_nil_right, List.foldl_cons, List.foldl_nil, Bool.not_true, Bool.not_false, decide_true, decide_false, c1, c2]
          cases b <;> try simp only [colB]
          cases t <;> simp only [colB, hf _ _ c2, Bool.false_and, Bool.and_false]
        simp only [exSs_cons, exSs_nil, exS_ret, exS_retN, exS_asg, exS_asgO, exS_asgT, exS_par2, exS_ex, exS_ifs, exS_for, for_nil, for_cons, fo_some, fr_nx, fr_rt, as_nm, as_tup, ev_var, ev_con, ev_bin, ev_cmp, ev_chain, ev_nt, ev_and, ev_or, ev_ife, ev_tup, ev_lst, ev_dnew, ev_sub, ev_slc, ev_rev, ev_call, ev_callK, ev_b1, ev_mut, ev_isi, evs_nil, evs_cons, evO_nil, evO_one, evT_and, evT_or, evT_nt, evI_val, evI_range1, evTs_nil, evTs_one, q_bind, q_bindS, q_of, q_at, q_rw, q_seq_nx, q_seq_rt, q_var, vd_dat, vd_own, q_rd, rdo_dat, rdo_own, q_brw_var, thV_some, twV_some, q_two_var, q_and, q_or, q_chain, q_callD, q_callKD, kiR_some, q_b1F, q_b1, q_isi, q_mut, q_ownK, oko_own, kindD, q_mutD, mdo_own, mdr_some, g_fn, g_ki, g_tru, g_cmp, g_bin, gg_get, g_slc, g_rev, g_it, g_isi_int, g_isi_bool, g_isi_str, g_isi_tuple, g_isi_list, g_bF_len, g_bF_repr, g_bF_max, g_bF_str, g_bF_int, g_bF_tuple, g_bF_all, g_bF_any, g_bF_list, g_b1_len, g_b1_repr, g_b1_max, g_b1_str, g_b1_int, g_b1_tuple, g_b1_all, g_mu_append, k_tbl, c_eqI, c_neI, c_ltI, c_gtI, c_geI, c_leI, c_eqL, c_neL, c_eqT, c_neT, c_isB, c_notB, c_eqS, ownD, asgL, t_bl, t_non, t_lst, t_tup, n_str, n_lst, n_tup, tu_lst, li_tup, li_lst, i_int, i1_int, it_lst, it_tup, rv_tup, at_tup, o_some, g_tupL, g_lstL, sl_tup, b_addI, b_subI, b_addB, b_subB, b_subIB, bw_con, tw_con, et_con, bw_glob, tw_glob, et_glob, bw_bin, tw_bin, et_bin, bw_neg, tw_neg, et_neg, bw_nt, tw_nt, bw_and, tw_and, bw_or, tw_or, bw_cmp, tw_cmp, et_cmp, bw_chain, tw_chain, et_chain, bw_ife, tw_ife, et_ife, bw_tup, tw_tup, et_tup, bw_lst, tw_lst, et_lst, bw_dnew, tw_dnew, et_dnew, bw_sub, tw_sub, et_sub, bw_slc, tw_slc, et_slc, bw_rev, tw_rev, et_rev, bw_call, tw_call, et_call, bw_callK, tw_callK, et_callK, bw_b1, tw_b1, et_b1, bw_mth, tw_mth, et_mth, bw_mut, tw_mut, et_mut, bw_isi, tw_isi, et_isi, bw_lc, tw_lc, et_lc, bw_sset, tw_sset, et_sset, et_var, List.getElem?_cons_zero, List.getElem?_cons_succ, List.set_cons_zero, List.set_cons_succ, List.length_cons, List.length_nil, Option.map_some, if_true, if_false, Bool.false_eq_true, Nat.zero_add, Nat.reduceAdd, Nat.reduceLT, Nat.reduceLeDiff, List.zip_cons_cons, List.zip_nil_left, List.zip_nil_right, List.foldl_cons, List.foldl_nil, Bool.not_true, Bool.not_false, decide_true, decide_false, c2, z3, fl_hit]
        cases b <;> simp only [exSs_cons, exSs_nil, exS_ret, exS_retN, exS_asg, exS_asgO, exS_asgT, exS_par2, exS_ex, exS_ifs, exS_for, for_nil, for_cons, fo_some, fr_nx, fr_rt, as_nm, as_tup, ev_var, ev_con, ev_bin, ev_cmp, ev_chain, ev_nt, ev_and, ev_or, ev_ife, ev_tup, ev_lst, ev_dnew, ev_sub, ev_slc, ev_rev, ev_call, ev_callK, ev_b1, ev_mut, ev_isi, evs_nil, evs_cons, evO_nil, evO_one, evT_and, evT_or, evT_nt, evI_val, evI_range1, evTs_nil, evTs_one, q_bind, q_bindS, q_of, q_at, q_rw, q_seq_nx, q_seq_rt, q_var, vd_dat, vd_own, q_rd, rdo_dat, rdo_own, q_brw_var, thV_some, twV_some, q_two_var, q_and, q_or, q_chain, q_callD, q_callKD, kiR_some, q_b1F, q_b1, q_isi, q_mut, q_ownK, oko_own, kindD, q_mutD, mdo_own, mdr_some, g_fn, g_ki, g_tru, g_cmp, g_bin, gg_get, g_slc, g_rev, g_it, g_isi_int, g_isi_bool, g_isi_str, g_isi_tuple, g_isi_list, g_bF_len, g_bF_repr, g_bF_max, g_bF_str, g_bF_int, g_bF_tuple, g_bF_all, g_bF_any, g_bF_list, g_b1_len, g_b1_repr, g_b1_max, g_b1_str, g_b1_int, g_b1_tuple, g_b1_all, g_mu_append, k_tbl, c_eqI, c_neI, c_ltI, c_gtI, c_geI, c_leI, c_eqL, c_neL, c_eqT, c_neT, c_isB, c_notB, c_eqS, ownD, asgL, t_bl, t_non, t_lst, t_tup, n_str, n_lst, n_tup, tu_lst, li_tup, li_lst, i_int, i1_int, it_lst, it_tup, rv_tup, at_tup, o_some, g_tupL, g_lstL, sl_tup, b_addI, b_subI, b_addB, b_subB, b_subIB, bw_con, tw_con, et_con, bw_glob, tw_glob, et_glob, bw_bin, tw_bin, et_bin, bw_neg, tw_neg, et_neg, bw_nt, tw_nt, bw_and, tw_and, bw_or, tw_or, bw_cmp, tw_cmp, et_cmp, bw_chain, tw_chain, et_chain, bw_ife, tw_ife, et_ife, bw_tup, tw_tup, et_tup, bw_lst, tw_lst, et_lst, bw_dnew, tw_dnew, et_dnew, bw_sub, tw_sub, et_sub, bw_slc, tw_slc, et_slc, bw_rev, tw_rev, et_rev, bw_call, tw_call, et_call, bw_callK, tw_callK, et_callK, bw_b1, tw_b1, et_b1, bw_mth, tw_mth, et_mth, bw_mut, tw_mut, et_mut, bw_isi, tw_isi, et_isi, bw_lc, tw_lc, et_lc, bw_sset, tw_sset, et_sset, et_var, List.getElem?_cons_zero, List.getElem?_cons_succ, List.set_cons_zero, List.set_cons_succ, List.length_cons, List.length_nil, Option.map_some, if_true, if_false, Bool.false_eq_true, Nat.zero_add, Nat.reduceAdd, Nat.reduceLT, Nat.reduceLeDiff, List.zip_cons_cons, List.zip_nil_left, List.zip_nil_right, List.foldl_cons, List.foldl_nil, Bool.not_true, Bool.not_false, decide_true, decide_false, isI, colB, d44, fl_hit]
        case int b =>
        by_cases c3 : b < 1
        · simp only [exSs_cons, exSs_nil, exS_ret, exS_retN, exS_asg, exS_asgO, exS_asgT, exS_par2, exS_ex, exS_ifs, exS_for, for_nil, for_cons, fo_some, fr_nx, fr_rt, as_nm, as_tup, ev_var, ev_con, ev_bin, ev_cmp, ev_chain, ev_nt, ev_and, ev_or, ev_ife, ev_tup, ev_lst, ev_dnew, ev_sub, ev_slc, ev_rev, ev_call, ev_callK, ev_b1, ev_mut, ev_isi, evs_nil, evs_cons, evO_nil, evO_one, evT_and, evT_or, evT_nt, evI_val, evI_range1, evTs_nil, evTs_one, q_bind, q_bindS, q_of, q_at, q_rw, q_seq_nx, q_seq_rt, q_var, vd_dat, vd_own, q_rd, rdo_dat, rdo_own, q_brw_var, thV_some, twV_some, q_two_var, q_and, q_or, q_chain, q_callD, q_callKD, kiR_some, q_b1F, q_b1, q_isi, q_mut, q_ownK, oko_own, kindD, q_mutD, mdo_own, mdr_some, g_fn, g_ki, g_tru, g_cmp, g_bin, gg_get, g_slc, g_rev, g_it, g_isi_int, g_isi_bool, g_isi_str, g_isi_tuple, g_isi_list, g_bF_len, g_bF_repr, g_bF_max, g_bF_str, g_bF_int, g_bF_tuple, g_bF_all, g_bF_any, g_bF_list, g_b1_len, g_b1_repr, g_b1_max, g_b1_str, g_b1_int, g_b1_tuple, g_b1_all, g_mu_append, k_tbl, c_eqI, c_neI, c_ltI, c_gtI, c_geI, c_leI, c_eqL, c_neL, c_eqT, c_neT, c_isB, c_notB, c_eqS, ownD, asgL, t_bl, t_non, t_lst, t_tup, n_str, n_lst, n_tup, tu_lst, li_tup, li_lst, i_int, i1_int, it_lst, it_tup, rv_tup, at_tup, o_some, g_tupL, g_lstL, sl_tup, b_addI, b_subI, b_addB, b_subB, b_subIB, bw_con, tw_con, et_con, bw_glob, tw_glob, et_glob, bw_bin, tw_bin, et_bin, bw_neg, tw_neg, et_neg, bw_nt, tw_nt, bw_and, tw_and, bw_or, tw_or, bw_cmp, tw_cmp, et_cmp, bw_chain, tw_chain, et_chain, bw_ife, tw_ife, et_ife, bw_tup, tw_tup, et_tup, bw_lst, tw_lst, et_lst, bw_dnew, tw_dnew, et_dnew, bw_sub, tw_sub, et_sub, bw_slc, tw_slc, et_slc, bw_rev, tw_rev, et_rev, bw_call, tw_call, et_call, bw_callK, tw_callK, et_callK, bw_b1, tw_b1, et_b1, bw_mth, tw_mth, et_mth, bw_mut, tw_mut, et_mut, bw_isi, tw_isi, et_isi, bw_lc, tw_lc, et_lc, bw_sset, tw_sset, et_sset, et_var, List.getElem?_cons_zero, List.getElem?_cons_succ, List.set_cons_zero, List.set_cons_succ, List.length_cons, List.length_nil, Option.map_some, if_true, if_false, Bool.false_eq_true, Nat.zero_add, Nat.reduceAdd, Nat.reduceLT, Nat.reduceLeDiff, List.zip_cons_cons, List.zip_nil_left, List.zip_nil_right, List.foldl_cons, List.foldl_nil, Bool.not_true, Bool.not_false, decide_true, decide_false, c1, c2, c3]
          cases t <;> simp only [colB, hf _ _ c3, Bool.false_and, Bool.and_false]
        have ht4 := k_tuple (lv_okT h4)
        cases t <;> first | (exact absurd h4 Bool.false_ne_true) | skip
        case tup ts =>
          rw [lv, lvs_iff] at h4
          have hn1 : szs ts ≤ 100000 := by
            simp only [szs, sz] at hn
            omega
          by_cases ha : (ts.length : Int) = s.length
          · obtain ⟨x', e⟩ := tabs_loop (.dat (.str s)) (.dat (.tup [.int m, .int a, .int b, .tup ts])) m a b (.dat (.tup ts)) (.dat (.int b)) (.dat (.int 1)) w ts .emp h4 hn1
            simp only [exSs_cons, exSs_nil, exS_ret, exS_retN, exS_asg, exS_asgO, exS_asgT, exS_par2, exS_ex, exS_ifs, exS_for, for_nil, for_cons, fo_some, fr_nx, fr_rt, as_nm, as_tup, ev_var, ev_con, ev_bin, ev_cmp, ev_chain, ev_nt, ev_and, ev_or, ev_ife, ev_tup, ev_lst, ev_dnew, ev_sub, ev_slc, ev_rev, ev_call, ev_callK, ev_b1, ev_mut, ev_isi, evs_nil, evs_cons, evO_nil, evO_one, evT_and, evT_or, evT_nt, evI_val, evI_range1, evTs_nil, evTs_one, q_bind, q_bindS, q_of, q_at, q_rw, q_seq_nx, q_seq_rt, q_var, vd_dat, vd_own, q_rd, rdo_dat, rdo_own, q_brw_var, thV_some, twV_some, q_two_var, q_and, q_or, q_chain, q_callD, q_callKD, kiR_some, q_b1F, q_b1, q_isi, q_mut, q_ownK, oko_own, kindD, q_mutD, mdo_own, mdr_some, g_fn, g_ki, g_tru, g_cmp, g_bin, gg_get, g_slc, g_rev, g_it, g_isi_int, g_isi_bool, g_isi_str, g_isi_tuple, g_isi_list, g_bF_len, g_bF_repr, g_bF_max, g_bF_str, g_bF_int, g_bF_tuple, g_bF_all, g_bF_any, g_bF_list, g_b1_len, g_b1_repr, g_b1_max, g_b1_str, g_b1_int, g_b1_tuple, g_b1_all, g_mu_append, k_tbl, c_eqI, c_neI, c_ltI, c_gtI, c_geI, c_leI, c_eqL, c_neL, c_eqT, c_neT, c_isB, c_notB, c_eqS, ownD, asgL, t_bl, t_non, t_lst, t_tup, n_str, n_lst, n_tup, tu_lst, li_tup, li_lst, i_int, i1_int, it_lst, it_tup, rv_tup, at_tup, o_some, g_tupL, g_lstL, sl_tup, b_addI, b_subI, b_addB, b_subB, b_subIB, bw_con, tw_con, et_con, bw_glob, tw_glob, et_glob, bw_bin, tw_bin, et_bin, bw_neg, tw_neg, et_neg, bw_nt, tw_nt, bw_and, tw_and, bw_or, tw_or, bw_cmp, tw_cmp, et_cmp, bw_chain, tw_chain, et_chain, bw_ife, tw_ife, et_ife, bw_tup, tw_tup, et_tup, bw_lst, tw_lst, et_lst, bw_dnew, tw_dnew, et_dnew, bw_sub, tw_sub, et_sub, bw_slc, tw_slc, et_slc, bw_rev, tw_rev, et_rev, bw_call, tw_call, et_call, bw_callK, tw_callK, et_callK, bw_b1, tw_b1, et_b1, bw_mth, tw_mth, et_mth, bw_mut, tw_mut, et_mut, bw_isi, tw_isi, et_isi, bw_lc, tw_lc, et_lc, bw_sset, tw_sset, et_sset, et_var, List.getElem?_cons_zero, List.getElem?_cons_succ, List.set_cons_zero, List.set_cons_succ, List.length_cons, List.length_nil, Option.map_some, if_true, if_false, Bool.false_eq_true, Nat.zero_add, Nat.reduceAdd, Nat.reduceLT, Nat.reduceLeDiff, List.zip_cons_cons, List.zip_nil_left, List.zip_nil_right, List.foldl_cons, List.foldl_nil, Bool.not_true, Bool.not_false, decide_true, decide_false, c1, c2, c3, ht4, tupB, e, colB, ha, Bool.true_and, ht _ _ c1, ht _ _ c2, ht _ _ c3]
            cases ts.all (tabB m a b) <;> simp only [exSs_cons, exSs_nil, exS_ret, exS_retN, exS_asg, exS_asgO, exS_asgT, exS_par2, exS_ex, exS_ifs, exS_for, for_nil, for_cons, fo_some, fr_nx, fr_rt, as_nm, as_tup, ev_var, ev_con, ev_bin, ev_cmp, ev_chain, ev_nt, ev_and, ev_or, ev_ife, ev_tup, ev_lst, ev_dnew, ev_sub, ev_slc, ev_rev, ev_call, ev_callK, ev_b1, ev_mut, ev_isi, evs_nil, evs_cons, evO_nil, evO_one, evT_and, evT_or, evT_nt, evI_val, evI_range1, evTs_nil, evTs_one, q_bind, q_bindS, q_of, q_at, q_rw, q_seq_nx, q_seq_rt, q_var, vd_dat, vd_own, q_rd, rdo_dat, rdo_own, q_brw_var, thV_some, twV_some, q_two_var, q_and, q_or, q_chain, q_callD, q_callKD, kiR_some, q_b1F, q_b1, q_isi, q_mut, q_ownK, oko_own, kindD, q_mutD, mdo_own, mdr_some, g_fn, g_ki, g_tru, g_cmp, g_bin, gg_get, g_slc, g_rev, g_it, g_isi_int, g_isi_bool, g_isi_str, g_isi_tuple, g_isi_list, g_bF_len, g_bF_repr, g_bF_max, g_bF_str, g_bF_int, g_bF_tuple, g_bF_all, g_bF_any, g_bF_list, g_b1_len, g_b1_repr, g_b1_max, g_b1_str, g_b1_int, g_b1_tuple, g_b1_all, g_mu_append, k_tbl, c_eqI, c_neI, c_ltI, c_gtI, c_geI, c_leI, c_eqL, c_neL, c_eqT, c_neT, c_isB, c_notB, c_eqS, ownD, asgL, t_bl, t_non, t_lst, t_tup, n_str, n_lst, n_tup, tu_lst, li_tup, li_lst, i_int, i1_int, it_lst, it_tup, rv_tup, at_tup, o_some, g_tupL, g_lstL, sl_tup, b_addI, b_subI, b_addB, b_subB, b_subIB, bw_con, tw_con, et_con, bw_glob, tw_glob, et_glob, bw_bin, tw_bin, et_bin, bw_neg, tw_neg, et_neg, bw_nt, tw_nt, bw_and, tw_and, bw_or, tw_or, bw_cmp, tw_cmp, et_cmp, bw_chain, tw_chain, et_chain, bw_ife, tw_ife, et_ife, bw_tup, tw_tup, et_tup, bw_lst, tw_lst, et_lst, bw_dnew, tw_dnew, et_dnew, bw_sub, tw_sub, et_sub, bw_slc, tw_slc, et_slc, bw_rev, tw_rev, et_rev, bw_call, tw_call, et_call, bw_callK, tw_callK, et_callK, bw_b1, tw_b1, et_b1, bw_mth, tw_mth, et_mth, bw_mut, tw_mut, et_mut, bw_isi, tw_isi, et_isi, bw_lc, tw_lc, et_lc, bw_sset, tw_sset, et_sset, et_var, List.getElem?_cons_zero, List.getElem?_cons_succ, List.set_cons_zero, List.set_cons_succ, List.length_cons, List.length_nil, Option.map_some, if_true, if_false, Bool.false_eq_true, Nat.zero_add, Nat.reduceAdd, Nat.reduceLT, Nat.reduceLeDiff, List.zip_cons_cons, List.zip_nil_left, List.zip_nil_right, List.foldl_cons, List.foldl_nil, Bool.not_true, Bool.not_false, decide_true, decide_false]
          · simp only [exSs_cons, exSs_nil, exS_ret, exS_retN, exS_asg, exS_asgO, exS_asgT, exS_par2, exS_ex, exS_ifs, exS_for, for_nil, for_cons, fo_some, fr_nx, fr_rt, as_nm, as_tup, ev_var, ev_con, ev_bin, ev_cmp, ev_chain, ev_nt, ev_and, ev_or, ev_ife, ev_tup, ev_lst, ev_dnew, ev_sub, ev_slc, ev_rev, ev_call, ev_callK, ev_b1, ev_mut, ev_isi, evs_nil, evs_cons, evO_nil, evO_one, evT_and, evT_or, evT_nt, evI_val, evI_range1, evTs_nil, evTs_one, q_bind, q_bindS, q_of, q_at, q_rw, q_seq_nx, q_seq_rt, q_var, vd_dat, vd_own, q_rd, rdo_dat, rdo_own, q_brw_var, thV_some, twV_some, q_two_var, q_and, q_or, q_chain, q_callD, q_callKD, kiR_some, q_b1F, q_b1, q_isi, q_mut, q_ownK, oko_own, kindD, q_mutD, mdo_own, mdr_some, g_fn, g_ki, g_tru, g_cmp, g_bin, gg_get, g_slc, g_rev, g_it, g_isi_int, g_isi_bool, g_isi_str, g_isi_tuple, g_isi_list, g_bF_len, g_bF_repr, g_bF_max, g_bF_str, g_bF_int, g_bF_tuple, g_bF_all, g_bF_any, g_bF_list, g_b1_len, g_b1_repr, g_b1_max, g_b1_str, g_b1_int, g_b1_tuple, g_b1_all, g_mu_append, k_tbl, c_eqI, c_neI, c_ltI, c_gtI, c_geI, c_leI, c_eqL, c_neL, c_eqT, c_neT, c_isB, c_notB, c_eqS, ownD, asgL, t_bl, t_non, t_lst, t_tup, n_str, n_lst, n_tup, tu_lst, li_tup, li_lst, i_int, i1_int, it_lst, it_tup, rv_tup, at_tup, o_some, g_tupL, g_lstL, sl_tup, b_addI, b_subI, b_addB, b_subB, b_subIB, bw_con, tw_con, et_con, bw_glob, tw_glob, et_glob, bw_bin, tw_bin, et_bin, bw_neg, tw_neg, et_neg, bw_nt, tw_nt, bw_and, tw_and, bw_or, tw_or, bw_cmp, tw_cmp, et_cmp, bw_chain, tw_chain, et_chain, bw_ife, tw_ife, et_ife, bw_tup, tw_tup, et_tup, bw_lst, tw_lst, et_lst, bw_dnew, tw_dnew, et_dnew, bw_sub, tw_sub, et_sub, bw_slc, tw_slc, et_slc, bw_rev, tw_rev, et_rev, bw_call, tw_call, et_call, bw_callK, tw_callK, et_callK, bw_b1, tw_b1, et_b1, bw_mth, tw_mth, et_mth, bw_mut, tw_mut, et_mut, bw_isi, tw_isi, et_isi, bw_lc, tw_lc, et_lc, bw_sset, tw_sset, et_sset, et_var, List.getElem?_cons_zero, List.getElem?_cons_succ, List.set_cons_zero, List.set_cons_succ, List.length_cons, List.length_nil, Option.map_some, if_true, if_false, Bool.false_eq_true, Nat.zero_add, Nat.reduceAdd, Nat.reduceLT, Nat.reduceLeDiff, List.zip_cons_cons, List.zip_nil_left, List.zip_nil_right, List.foldl_cons, List.foldl_nil, Bool.not_true, Bool.not_false, decide_true, decide_false, c1, c2, c3, ht4, tupB, colB, ha, Bool.and_false, Bool.false_and]
        all_goals simp only [exSs_cons, exSs_nil, exS_ret, exS_retN, exS_asg, exS_asgO, exS_asgT, exS_par2, exS_ex, exS_ifs, exS_for, for_nil, for_cons, fo_some, fr_nx, fr_rt, as_nm, as_tup, ev_var, ev_con, ev_bin, ev_cmp, ev_chain, ev_nt, ev_and, ev_or, ev_ife, ev_tup, ev_lst, ev_dnew, ev_sub, ev_slc, ev_rev, ev_call, ev_callK, ev_b1, ev_mut, ev_isi, evs_nil, evs_cons, evO_nil, evO_one, evT_and, evT_or, evT_nt, evI_val, evI_range1, evTs_nil, evTs_one, q_bind, q_bindS, q_of, q_at, q_rw, q_seq_nx, q_seq_rt, q_var, vd_dat, vd_own, q_rd, rdo_dat, rdo_own, q_brw_var, thV_some, twV_some, q_two_var, q_and, q_or, q_chain, q_callD, q_callKD, kiR_some, q_b1F, q_b1, q_isi, q_mut, q_ownK, oko_own, kindD, q_mutD, mdo_own, mdr_some, g_fn, g_ki, g_tru, g_cmp, g_bin, gg_get, g_slc, g_rev, g_it, g_isi_int, g_isi_bool, g_isi_str, g_isi_tuple, g_isi_list, g_bF_len, g_bF_repr, g_bF_max, g_bF_str, g_bF_int, g_bF_tuple, g_bF_all, g_bF_any, g_bF_list, g_b1_len, g_b1_repr, g_b1_max, g_b1_str, g_b1_int, g_b1_tuple, g_b1_all, g_mu_append, k_tbl, c_eqI, c_neI, c_ltI, c_gtI, c_geI, c_leI, c_eqL, c_neL, c_eqT, c_neT, c_isB, c_notB, c_eqS, ownD, asgL, t_bl, t_non, t_lst, t_tup, n_str, n_lst, n_tup, tu_lst, li_tup, li_lst, i_int, i1_int, it_lst, it_tup, rv_tup, at_tup, o_some, g_tupL, g_lstL, sl_tup, b_addI, b_subI, b_addB, b_subB, b_subIB, bw_con, tw_con, et_con, bw_glob, tw_glob, et_glob, bw_bin, tw_bin, et_bin, bw_neg, tw_neg, et_neg, bw_nt, tw_nt, bw_and, tw_and, bw_or, tw_or, bw_cmp, tw_cmp, et_cmp, bw_chain, tw_chain, et_chain, bw_ife, tw_ife, et_ife, bw_tup, tw_tup, et_tup, bw_lst, tw_lst, et_lst, bw_dnew, tw_dnew, et_dnew, bw_sub, tw_sub, et_sub, bw_slc, tw_slc, et_slc, bw_rev, tw_rev, et_rev, bw_call, tw_call, et_call, bw_callK, tw_callK, et_callK, bw_b1, tw_b1, et_b1, bw_mth, tw_mth, et_mth, bw_mut, tw_mut, et_mut, bw_isi, tw_isi, et_isi, bw_lc, tw_lc, et_lc, bw_sset, tw_sset, et_sset, et_var, List.getElem?_cons_zero, List.getElem?_cons_succ, List.set_cons_zero, List.set_cons_succ, List.length_cons, List.length_nil, Option.map_some, if_true, if_false, Bool.false_eq_true, Nat.zero_add, Nat.reduceAdd, Nat.reduceLT, Nat.reduceLeDiff, List.zip_cons_cons, List.zip_nil_left, List.zip_nil_right, List.foldl_cons, List.foldl_nil, Bool.not_true, Bool.not_false, decide_true, decide_false, c1, c2, c3, ht4, tupB, colB]
    · have e4 : ((ns.length : Nat) : Int) ≠ 4 := by omega
      have e5 : colB s.length (.tup ns) = false := by
        unfold colB
        split
        · rename_i e
          cases e
          exact absurd rfl hl
        · rfl
      simp only [exSs_cons, exSs_nil, exS_ret, exS_retN, exS_asg, exS_asgO, exS_asgT, exS_par2, exS_ex, exS_ifs, exS_for, for_nil, for_cons, fo_some, fr_nx, fr_rt, as_nm, as_tup, ev_var, ev_con, ev_bin, ev_cmp, ev_chain, ev_nt, ev_and, ev_or, ev_ife, ev_tup, ev_lst, ev_dnew, ev_sub, ev_slc, ev_rev, ev_call, ev_callK, ev_b1, ev_mut, ev_isi, evs_nil, evs_cons, evO_nil, evO_one, evT_and, evT_or, evT_nt, evI_val, evI_range1, evTs_nil, evTs_one, q_bind, q_bindS, q_of, q_at, q_rw, q_seq_nx, q_seq_rt, q_var, vd_dat, vd_own, q_rd, rdo_dat, rdo_own, q_brw_var, thV_some, twV_some, q_two_var, q_and, q_or, q_chain, q_callD, q_callKD, kiR_some, q_b1F, q_b1, q_isi, q_mut, q_ownK, oko_own, kindD, q_mutD, mdo_own, mdr_some, g_fn, g_ki, g_tru, g_cmp, g_bin, gg_get, g_slc, g_rev, g_it, g_isi_int, g_isi_bool, g_isi_str, g_isi_tuple, g_isi_list, g_bF_len, g_bF_repr, g_bF_max, g_bF_str, g_bF_int, g_bF_tuple, g_bF_all, g_bF_any, g_bF_list, g_b1_len, g_b1_repr, g_b1_max, g_b1_str, g_b1_int, g_b1_tuple, g_b1_all, g_mu_append, k_tbl, c_eqI, c_neI, c_ltI, c_gtI, c_geI, c_leI, c_eqL, c_neL, c_eqT, c_neT, c_isB, c_notB, c_eqS, ownD, asgL, t_bl, t_non, t_lst, t_tup, n_str, n_lst, n_tup, tu_lst, li_tup, li_lst, i_int, i1_int, it_lst, it_tup, rv_tup, at_tup, o_some, g_tupL, g_lstL, sl_tup, b_addI, b_subI, b_addB, b_subB, b_subIB, bw_con, tw_con, et_con, bw_glob, tw_glob, et_glob, bw_bin, tw_bin, et_bin, bw_neg, tw_neg, et_neg, bw_nt, tw_nt, bw_and, tw_and, bw_or, tw_or, bw_cmp, tw_cmp, et_cmp, bw_chain, tw_chain, et_chain, bw_ife, tw_ife, et_ife, bw_tup, tw_tup, et_tup, bw_lst, tw_lst, et_lst, bw_dnew, tw_dnew, et_dnew, bw_sub, tw_sub, et_sub, bw_slc, tw_slc, et_slc, bw_rev, tw_rev, et_rev, bw_call, tw_call, et_call, bw_callK, tw_callK, et_callK, bw_b1, tw_b1, et_b1, bw_mth, tw_mth, et_mth, bw_mut, tw_mut, et_mut, bw_isi, tw_isi, et_isi, bw_lc, tw_lc, et_lc, bw_sset, tw_sset, et_sset, et_var, List.getElem?_cons_zero, List.getElem?_cons_succ, List.set_cons_zero, List.set_cons_succ, List.length_cons, List.length_nil, Option.map_some, if_true, if_false, Bool.false_eq_true, Nat.zero_add, Nat.reduceAdd, Nat.reduceLT, Nat.reduceLeDiff, List.zip_cons_cons, List.zip_nil_left, List.zip_nil_right, List.foldl_cons, List.foldl_nil, Bool.not_true, Bool.not_false, decide_true, decide_false, hk, tupB, e4, e5]
  all_goals simp only [exSs_cons, exSs_nil, exS_ret, exS_retN, exS_asg, exS_asgO, exS_asgT, exS_par2, exS_ex, exS_ifs, exS_for, for_nil, for_cons, fo_some, fr_nx, fr_rt, as_nm, as_tup, ev_var, ev_con, ev_bin, ev_cmp, ev_chain, ev_nt, ev_and, ev_or, ev_ife, ev_tup, ev_lst, ev_dnew, ev_sub, ev_slc, ev_rev, ev_call, ev_callK, ev_b1, ev_mut, ev_isi, evs_nil, evs_cons, evO_nil, evO_one, evT_and, evT_or, evT_nt, evI_val, evI_range1, evTs_nil, evTs_one, q_bind, q_bindS, q_of, q_at, q_rw, q_seq_nx, q_seq_rt, q_var, vd_dat, vd_own, q_rd, rdo_dat, rdo_own, q_brw_var, thV_some, twV_some, q_two_var, q_and, q_or, q_chain, q_callD, q_callKD, kiR_some, q_b1F, q_b1, q_isi, q_mut, q_ownK, oko_own, kindD, q_mutD, mdo_own, mdr_some, g_fn, g_ki, g_tru, g_cmp, g_bin, gg_get, g_slc, g_rev, g_it, g_isi_int, g_isi_bool, g_isi_str, g_isi_tuple, g_isi_list, g_bF_len, g_bF_repr, g_bF_max, g_bF_str, g_bF_int, g_bF_tuple, g_bF_all, g_bF_any, g_bF_list, g_b1_len, g_b1_repr, g_b1_max, g_b1_str, g_b1_int, g_b1_tuple, g_b1_all, g_mu_append, k_tbl, c_eqI, c_neI, c_ltI, c_gtI, c_geI, c_leI, c_eqL, c_neL, c_eqT, c_neT, c_isB, c_notB, c_eqS, ownD, asgL, t_bl, t_non, t_lst, t_tup, n_str, n_lst, n_tup, tu_lst, li_tup, li_lst, i_int, i1_int, it_lst, it_tup, rv_tup, at_tup, o_some, g_tupL, g_lstL, sl_tup, b_addI, b_subI, b_addB, b_subB, b_subIB, bw_con, tw_con, et_con, bw_glob, tw_glob, et_glob, bw_bin, tw_bin, et_bin, bw_neg, tw_neg, et_neg, bw_nt, tw_nt, bw_and, tw_and, bw_or, tw_or, bw_cmp, tw_cmp, et_cmp, bw_chain, tw_chain, et_chain, bw_ife, tw_ife, et_ife, bw_tup, tw_tup, et_tup, bw_lst, tw_lst, et_lst, bw_dnew, tw_dnew, et_dnew, bw_sub, tw_sub, et_sub, bw_slc, tw_slc, et_slc, bw_rev, tw_rev, et_rev, bw_call, tw_call, et_call, bw_callK, tw_callK, et_callK, bw_b1, tw_b1, et_b1, bw_mth, tw_mth, et_mth, bw_mut, tw_mut, et_mut, bw_isi, tw_isi, et_isi, bw_lc, tw_lc, et_lc, bw_sset, tw_sset, et_sset, et_var, List.getElem?_cons_zero, List.getElem?_cons_succ, List.set_cons_zero, List.set_cons_succ, List.length_cons, List.length_nil, Option.map_some, if_true, if_false, Bool.false_eq_true, Nat.zero_add, Nat.reduceAdd, Nat.reduceLT, Nat.reduceLeDiff, List.zip_cons_cons, List.zip_nil_left, List.zip_nil_right, List.foldl_cons, List.foldl_nil, Bool.not_true, Bool.not_false, decide_true, decide_false, hk, tupB, colB]
/-! ### both looks, side by side -/
def kiT : Str → List D → List Str → List D → Option (List D) := fun f ds ks us => match ds, us with
  | [], [a, b] => if f = ("is_colouring" : Str) ∧ ks = ([("thing" : Str), ("kinds" : Str)] : List Str) then some [b, a] else none
  | _, _ => none
theorem kiT_is {a b : D} : kiT "is_colouring" [] ["thing", "kinds"] [a, b] = some [b, a] := by
  unfold kiT
  exact if_pos ⟨rfl, rfl⟩
def F_told : Fn := runB (stdG (fl [("is_colouring", F_is_colouring), ("_law_is_shade", F_shade)]) kiT) b_l_told_right 2 5
theorem miss3 {F : Fn} {l : List (Str × Fn)} : fl (("is_colouring", F) :: l) "_law_is_shade" = fl l "_law_is_shade" := fl_miss (by decide)
theorem told_eq (s : Str) (d : D) (w : DW) (h : lv d = true) (hd : dh d ≤ 60) (hs : sz d ≤ 5000) : F_told [.str s, d] w = .ok (.bl true) w := by
  refine q_run rfl ?_
  show exSs _ b_l_told_right [.dat (.str s), .dat d, .emp, .emp, .emp] w = _
  unfold b_l_told_right
  obtain ⟨r1, e1⟩ := repr_lv h hd hs
  obtain ⟨r2, e2⟩ := repr_lv (d := .lst [.bl (colB s.length d), .bl (colB s.length d)]) rfl (by simp [dh, dhs]) (by simp [sz, szs])
  have hs2 : sz d ≤ 100000 := by omega
  simp only [exSs_cons, exSs_nil, exS_ret, exS_retN, exS_asg, exS_asgO, exS_asgT, exS_par2, exS_ex, exS_ifs, exS_for, for_nil, for_cons, fo_some, fr_nx, fr_rt, as_nm, as_tup, ev_var, ev_con, ev_bin, ev_cmp, ev_chain, ev_nt, ev_and, ev_or, ev_ife, ev_tup, ev_lst, ev_dnew, ev_sub, ev_slc, ev_rev, ev_call, ev_callK, ev_b1, ev_mut, ev_isi, evs_nil, evs_cons, evO_nil, evO_one, evT_and, evT_or, evT_nt, evI_val, evI_range1, evTs_nil, evTs_one, q_bind, q_bindS, q_of, q_at, q_rw, q_seq_nx, q_seq_rt, q_var, vd_dat, vd_own, q_rd, rdo_dat, rdo_own, q_brw_var, thV_some, twV_some, q_two_var, q_and, q_or, q_chain, q_callD, q_callKD, kiR_some, q_b1F, q_b1, q_isi, q_mut, q_ownK, oko_own, kindD, q_mutD, mdo_own, mdr_some, g_fn, g_ki, g_tru, g_cmp, g_bin, gg_get, g_slc, g_rev, g_it, g_isi_int, g_isi_bool, g_isi_str, g_isi_tuple, g_isi_list, g_bF_len, g_bF_repr, g_bF_max, g_bF_str, g_bF_int, g_bF_tuple, g_bF_all, g_bF_any, g_bF_list, g_b1_len, g_b1_repr, g_b1_max, g_b1_str, g_b1_int, g_b1_tuple, g_b1_all, g_mu_append, k_tbl, c_eqI, c_neI, c_ltI, c_gtI, c_geI, c_leI, c_eqL, c_neL, c_eqT, c_neT, c_isB, c_notB, c_eqS, ownD, asgL, t_bl, t_non, t_lst, t_tup, n_str, n_lst, n_tup, tu_lst, li_tup, li_lst, i_int, i1_int, it_lst, it_tup, rv_tup, at_tup, o_some, g_tupL, g_lstL, sl_tup, b_addI, b_subI, b_addB, b_subB, b_subIB, bw_con, tw_con, et_con, bw_glob, tw_glob, et_glob, bw_bin, tw_bin, et_bin, bw_neg, tw_neg, et_neg, bw_nt, tw_nt, bw_and, tw_and, bw_or, tw_or, bw_cmp, tw_cmp, et_cmp, bw_chain, tw_chain, et_chain, bw_ife, tw_ife, et_ife, bw_tup, tw_tup, et_tup, bw_lst, tw_lst, et_lst, bw_dnew, tw_dnew, et_dnew, bw_sub, tw_sub, et_sub, bw_slc, tw_slc, et_slc, bw_rev, tw_rev, et_rev, bw_call, tw_call, et_call, bw_callK, tw_callK, et_callK, bw_b1, tw_b1, et_b1, bw_mth, tw_mth, et_mth, bw_mut, tw_mut, et_mut, bw_isi, tw_isi, et_isi, bw_lc, tw_lc, et_lc, bw_sset, tw_sset, et_sset, et_var, List.getElem?_cons_zero, List.getElem?_cons_succ, List.set_cons_zero, List.set_cons_succ, List.length_cons, List.length_nil, Option.map_some, if_true, if_false, Bool.false_eq_true, Nat.zero_add, Nat.reduceAdd, Nat.reduceLT, Nat.reduceLeDiff, List.zip_cons_cons, List.zip_nil_left, List.zip_nil_right, List.foldl_cons, List.foldl_nil, Bool.not_true, Bool.not_false, decide_true, decide_false, fl_hit, miss3, shade_eq s d w h hs2, is_colouring_eq s d w h hs2, e1, e2, kiT_is]
end DL.K17
set_option maxRecDepth 100000
set_option maxHeartbeats 4000000
set_option linter.all false
namespace DL.K17
open PySem PySem.Spec PyProof.Rows L2 DL
/-! ### what is drawn -/
def WS (c : Nat) (w : DW) : Prop := 0 ≤ w.2 ∧ w.2 ≤ (c : Int) ∧ w.1.length ≤ 63
theorem WS.mono {c c' : Nat} {w : DW} (h : WS c w) (e : c ≤ c') : WS c' w := ⟨h.1, by have := h.2.1; omega, h.2.2⟩
theorem fig_lt (t c many : Int) (h : 0 < many) : 0 ≤ fig t c many ∧ fig t c many < many := by
  unfold fig
  exact ⟨Int.emod_nonneg _ (by omega), Int.emod_lt_of_pos _ h⟩
theorem log_ok {n : Int} (h0 : 0 < n) (h : n ≤ 10 ^ 40) : n.natAbs.log2 < 200 := by
  rw [Nat.log2_lt (by omega)]
  have e : (10 : Int) ^ 40 < ((2 ^ 200 : Nat) : Int) := by decide
  omega
theorem drawV_ok {m many : Int} {w : DW} {c : Nat} (h : WS c w) (h0 : 0 < many) : 0 ≤ (drawV m many w).1 ∧ (drawV m many w).1 < many ∧ WS (c + 1) (drawV m many w).2 := by
  obtain ⟨cs, n⟩ := w
  obtain ⟨h1, h2, h3⟩ := h
  simp only at h1 h2 h3
  unfold drawV
  simp only
  cases hcs : cs.getLast? with
  | none =>
    obtain ⟨f1, f2⟩ := fig_lt (n + 1) m many h0
    exact ⟨f1, f2, by show 0 ≤ n + 1; omega, by show n + 1 ≤ ((c + 1 : Nat) : Int); omega, h3⟩
  | some x =>
    have hne : cs ≠ [] := by rintro rfl; cases hcs
    have hp : 0 < cs.length := List.length_pos_iff.mpr hne
    simp only
    split
    · refine ⟨Int.emod_nonneg _ (by omega), Int.emod_lt_of_pos _ h0, by show 0 ≤ n + 1; omega, by show n + 1 ≤ ((c + 1 : Nat) : Int); omega, ?_⟩
      show (cs.dropLast ++ [x / many]).length ≤ 63
      rw [List.length_append, List.length_dropLast]
      simp only [List.length_cons, List.length_nil]
      omega
    · obtain ⟨f1, f2⟩ := fig_lt (n + 1) (x + m) many h0
      refine ⟨f1, f2, by show 0 ≤ n + 1; omega, by show n + 1 ≤ ((c + 1 : Nat) : Int); omega, ?_⟩
      show cs.dropLast.length ≤ 63
      rw [List.length_dropLast]
      omega
theorem draw_eq {m many : Int} {w : DW} {c : Nat} (h : WS c w) (hc : c < 900000) (h0 : 0 < many) (hb : many ≤ 10 ^ 40) : ∃ v w', F_draw m [.deck, .int many] w = .ok (.int v) w' ∧ 0 ≤ v ∧ v < many ∧ WS (c + 1) w' := by
  obtain ⟨h1, h2, h3⟩ := drawV_ok (m := m) h h0
  refine ⟨_, _, ?_, h1, h2, h3⟩
  unfold F_draw
  exact if_pos ⟨h0, log_ok h0 hb, h.1, by have := h.2.1; omega, h.2.2⟩
theorem at_nat {ds : List D} {v : Int} (h0 : 0 ≤ v) (h1 : v < ds.length) : ∃ x, atI ds v = some x ∧ ds[v.toNat]? = some x := by
  have hb : v.toNat < ds.length := by omega
  refine ⟨ds[v.toNat], ?_, List.getElem?_eq_getElem hb⟩
  obtain ⟨n, rfl⟩ : ∃ n : Nat, v = n := ⟨v.toNat, by omega⟩
  have hn : ixN ds.length (n : Int) = some n := by
    unfold ixN
    rw [if_pos (by omega), if_pos (by omega)]
    simp
  unfold atI
  rw [hn]
  exact List.getElem?_eq_getElem (by omega)
theorem e40 : (1000 : Int) ≤ 10 ^ 40 := by decide
def F_pick (m : Int) : Fn := runB (stdG (fl [("_law_draw", F_draw m)]) ki0) b_l_pick 2 2
theorem pick_eq {m : Int} {ds : List D} {w : DW} {c : Nat} (h : WS c w) (hc : c < 900000) (hd : 0 < ds.length) (hb : ds.length ≤ 1000) : ∃ x w', F_pick m [.deck, .lst ds] w = .ok x w' ∧ x ∈ ds ∧ WS (c + 1) w' := by
  obtain ⟨v, w', e, h1, h2, h3⟩ := draw_eq (m := m) (many := ds.length) h hc (by omega) (by have := e40; omega)
  obtain ⟨x, e1, e2⟩ := at_nat h1 h2
  refine ⟨x, w', ?_, List.mem_of_getElem? e2, h3⟩
  refine q_run rfl ?_
  show exSs _ b_l_pick [.dat .deck, .dat (.lst ds)] w = _
  unfold b_l_pick
  simp only [exSs_cons, exSs_nil, exS_ret, exS_retN, exS_asg, exS_asgO, exS_asgT, exS_par2, exS_ex, exS_ifs, exS_for, for_nil, for_cons, fo_some, fr_nx, fr_rt, as_nm, as_tup, ev_var, ev_con, ev_bin, ev_cmp, ev_chain, ev_nt, ev_and, ev_or, ev_ife, ev_tup, ev_lst, ev_dnew, ev_sub, ev_slc, ev_rev, ev_call, ev_callK, ev_b1, ev_mut, ev_isi, evs_nil, evs_cons, evO_nil, evO_one, evT_and, evT_or, evT_nt, evI_val, evI_range1, evTs_nil, evTs_one, q_bind, q_bindS, q_of, q_at, q_rw, q_seq_nx, q_seq_rt, q_var, vd_dat, vd_own, q_rd, rdo_dat, rdo_own, q_brw_var, thV_some, twV_some, q_two_var, q_and, q_or, q_chain, q_callD, q_callKD, kiR_some, q_b1F, q_b1, q_isi, q_mut, q_ownK, oko_own, kindD, q_mutD, mdo_own, mdr_some, g_fn, g_ki, g_tru, g_cmp, g_bin, gg_get, g_slc, g_rev, g_it, g_isi_int, g_isi_bool, g_isi_str, g_isi_tuple, g_isi_list, g_bF_len, g_bF_repr, g_bF_max, g_bF_str, g_bF_int, g_bF_tuple, g_bF_all, g_bF_any, g_bF_list, g_b1_len, g_b1_repr, g_b1_max, g_b1_str, g_b1_int, g_b1_tuple, g_b1_all, g_mu_append, k_tbl, c_eqI, c_neI, c_ltI, c_gtI, c_geI, c_leI, c_eqL, c_neL, c_eqT, c_neT, c_isB, c_notB, c_eqS, ownD, asgL, t_bl, t_non, t_lst, t_tup, n_str, n_lst, n_tup, tu_lst, li_tup, li_lst, i_int, i1_int, it_lst, it_tup, rv_tup, at_tup, o_some, g_tupL, g_lstL, sl_tup, b_addI, b_subI, b_addB, b_subB, b_subIB, bw_con, tw_con, et_con, bw_glob, tw_glob, et_glob, bw_bin, tw_bin, et_bin, bw_neg, tw_neg, et_neg, bw_nt, tw_nt, bw_and, tw_and, bw_or, tw_or, bw_cmp, tw_cmp, et_cmp, bw_chain, tw_chain, et_chain, bw_ife, tw_ife, et_ife, bw_tup, tw_tup, et_tup, bw_lst, tw_lst, et_lst, bw_dnew, tw_dnew, et_dnew, bw_sub, tw_sub, et_sub, bw_slc, tw_slc, et_slc, bw_rev, tw_rev, et_rev, bw_call, tw_call, et_call, bw_callK, tw_callK, et_callK, bw_b1, tw_b1, et_b1, bw_mth, tw_mth, et_mth, bw_mut, tw_mut, et_mut, bw_isi, tw_isi, et_isi, bw_lc, tw_lc, et_lc, bw_sset, tw_sset, et_sset, et_var, List.getElem?_cons_zero, List.getElem?_cons_succ, List.set_cons_zero, List.set_cons_succ, List.length_cons, List.length_nil, Option.map_some, if_true, if_false, Bool.false_eq_true, Nat.zero_add, Nat.reduceAdd, Nat.reduceLT, Nat.reduceLeDiff, List.zip_cons_cons, List.zip_nil_left, List.zip_nil_right, List.foldl_cons, List.foldl_nil, Bool.not_true, Bool.not_false, decide_true, decide_false, fl_hit, e, e1]
theorem ints_len (n : Nat) : (intsD 0 n).length = n := by
  unfold intsD
  rw [List.length_map, List.length_range]
  omega
theorem rng_nat {n : Nat} (h : n ≤ 1000) : rng1 (.int n) = some (intsD 0 n) := by
  unfold rng1
  exact if_pos ⟨by omega, by omega⟩
theorem q_app {ρ : En} {w : DW} {i : Nat} {ds : List D} {es : En → DW → R (List D)} (h : ρ[i]? = some (.own (.lst ds))) : mutGD (some (4, appendF)) i es ρ w = (es ρ w).bind fun ds ρ w => mutD appendF i ds ρ w := by
  rw [q_mut (by rw [q_ownK, h]; rfl)]
theorem of_dat {F : D → Option (List D)} {d : D} {i : Nat} {ρ : En} {w : DW} : (vd (some (.dat d)) i ρ w).bind (fun d ρ w => R.of (F d) ρ w) = R.of (F d) ρ w := rfl
theorem of_con {F : D → Option (List D)} {d : D} {ρ : En} {w : DW} : (R.ok d ρ w).bind (fun d ρ w => R.of (F d) ρ w) = R.of (F d) ρ w := rfl
theorem evI_rngV {Γ : Gm} {x : Str} {i n : Nat} {ρ : En} {w : DW} (h : ρ[i]? = some (.dat (.int n))) (hn : n ≤ 1000) : evI Γ (.range1 (.var x i)) ρ w = .ok (intsD 0 n) ρ w := by
  rw [evI_range1, ev_var, q_var, h, of_dat, rng_nat hn, q_of]
theorem evI_rngC {Γ : Gm} {n : Nat} {ρ : En} {w : DW} (hn : n ≤ 1000) : evI Γ (.range1 (.con (.int n))) ρ w = .ok (intsD 0 n) ρ w := by
  rw [evI_range1, ev_con, of_con, rng_nat hn, q_of]
/-- all of them, what is drawn on the way, within a bound -/
theorem lc_relN {tg : Tg} {own : List Nat} {t : En → DW → R Bool} {f : En → DW → R D} {ρ : En} (N : Nat) (P : D → Prop) (S : Nat → DW → Prop) (r1 : D → En) (hfree : free ρ own = true) : ∀ {ds acc : List D} {n : Nat} {w : DW}, (∀ d ∈ ds, asgD tg d (wipeE ρ own) = some (r1 d)) →
    (∀ d ∈ ds, ∀ n w, n < N → S n w → t (r1 d) w = .ok true (r1 d) w ∧ ∃ x w', f (r1 d) w = .ok x (r1 d) w' ∧ P x ∧ S (n + 1) w') → (∀ d ∈ ds, backE ρ (r1 d) own = ρ) → acc.length + ds.length ≤ 100000 → n + ds.length ≤ N → S n w →
    ∃ xs w', lcD tg own t f ds acc ρ w = .ok (acc ++ xs) ρ w' ∧ xs.length = ds.length ∧ (∀ x ∈ xs, P x) ∧ S (n + ds.length) w'
  | [], acc, n, w, _, _, _, _, _, s => ⟨[], w, by simp [lcD], rfl, by simp, s⟩
  | d :: ds, acc, n, w, ha, ht, hb, hl, hN, s => by
    have m : d ∈ d :: ds := List.mem_cons_self
    rw [List.length_cons] at hl hN
    obtain ⟨h1, x, w1, h2, h3, h4⟩ := ht d m n w (by omega) s
    obtain ⟨xs, w', q1, q2, q3, q4⟩ := lc_relN N P S r1 hfree (ds := ds) (acc := acc ++ [x]) (n := n + 1) (w := w1) (fun x h => ha x (.tail _ h)) (fun x h => ht x (.tail _ h)) (fun x h => hb x (.tail _ h)) (by rw [List.length_append]; simp; omega) (by omega) h4
    have e : n + 1 + ds.length = n + (d :: ds).length := by rw [List.length_cons]; omega
    refine ⟨x :: xs, w', ?_, by rw [List.length_cons, q2, List.length_cons], fun y hy => ?_, by rw [← e]; exact q4⟩
    · rw [lcD, if_pos hfree, ha d m]
      simp only [h1, h2, hb d m]
      rw [if_pos (by omega), q1]
      simp
    · rcases List.mem_cons.mp hy with z | z
      · rw [z]; exact h3
      · exact q3 y z
/-! ### tables -/
def CellP (m : Int) (d : D) : Prop := ∃ i, d = .int i ∧ 0 ≤ i ∧ i < m
def RowP (m : Int) (a : Nat) (d : D) : Prop := ∃ ns, d = .tup ns ∧ ns.length = a ∧ ∀ n ∈ ns, CellP m n
def TabP (m : Int) (a b : Nat) (d : D) : Prop := ∃ rs, d = .tup rs ∧ rs.length = b ∧ ∀ r ∈ rs, RowP m a r
def F_tables (m : Int) : Fn := runB (stdG (fl [("_law_draw", F_draw m)]) ki0) b_l_tables 5 9
abbrev gD (m : Int) : Gm := stdG (fl [("_law_draw", F_draw m)]) ki0
def drawX : PX := .call "_law_draw" (.cons (.var "_law_deck_here" 0) (.cons (.var "_law_base" 2) .nil))
def rowX : PX := .b1 "tuple" (.lc drawX (.nm "_law_i" 7) (.range1 (.var "_law_wide" 3)) .nil [("_law_i", 7)])
def tabX : PX := .b1 "tuple" (.lc rowX (.nm "_law_j" 8) (.range1 (.var "_law_tall" 4)) .nil [("_law_j", 8)])
def tabsBody : PYs := .cons (.ex (.mut "_law_found" 5 "append" (.cons tabX .nil))) .nil
end DL.K17
set_option maxRecDepth 100000
set_option maxHeartbeats 4000000
set_option linter.all false
namespace DL.K17
open PySem PySem.Spec PyProof.Rows L2 DL
theorem row_eq {m base : Int} {a : Nat} {S T f g : Sl} {x : D} {c : Nat} {w : DW} (h : WS c w) (hc : c + a < 900000) (h0 : 0 < base) (hb : base ≤ 10 ^ 40) (ha : a ≤ 1000) :
    ∃ d w', ev (gD m) rowX [.dat .deck, S, .dat (.int base), .dat (.int a), T, f, g, .emp, .dat x] w = .ok d [.dat .deck, S, .dat (.int base), .dat (.int a), T, f, g, .emp, .dat x] w' ∧ RowP base a d ∧ WS (c + a) w' := by
  obtain ⟨ns, w', e, h1, h2, h3⟩ := lc_relN (tg := .nm "_law_i" 7) (own := [7]) (t := evTs (gD m) .nil) (f := ev (gD m) drawX)
    (ρ := [.dat .deck, S, .dat (.int base), .dat (.int a), T, f, g, .emp, .dat x]) a (CellP base) (fun n w => WS (c + n) w) (fun d => [.dat .deck, S, .dat (.int base), .dat (.int a), T, f, g, .dat d, .dat x]) rfl (ds := intsD 0 a) (acc := []) (n := 0) (w := w) (fun d _ => rfl) (fun d hd n w hn s => by
      obtain ⟨v, w', e, h1, h2, h3⟩ := draw_eq (m := m) s (by omega) h0 hb
      exact ⟨by simp only [exSs_cons, exSs_nil, exS_ret, exS_retN, exS_asg, exS_asgO, exS_asgT, exS_par2, exS_ex, exS_ifs, exS_for, for_nil, for_cons, fo_some, fr_nx, fr_rt, as_nm, as_tup, ev_var, ev_con, ev_bin, ev_cmp, ev_chain, ev_nt, ev_and, ev_or, ev_ife, ev_tup, ev_lst, ev_dnew, ev_sub, ev_slc, ev_rev, ev_call, ev_callK, ev_b1, ev_mut, ev_isi, evs_nil, evs_cons, evO_nil, evO_one, evT_and, evT_or, evT_nt, evI_val, evI_range1, evTs_nil, evTs_one, q_bind, q_bindS, q_of, q_at, q_rw, q_seq_nx, q_seq_rt, q_var, vd_dat, vd_own, q_rd, rdo_dat, rdo_own, q_brw_var, thV_some, twV_some, q_two_var, q_and, q_or, q_chain, q_callD, q_callKD, kiR_some, q_b1F, q_b1, q_isi, q_mut, q_ownK, oko_own, kindD, q_mutD, mdo_own, mdr_some, g_fn, g_ki, g_tru, g_cmp, g_bin, gg_get, g_slc, g_rev, g_it, g_isi_int, g_isi_bool, g_isi_str, g_isi_tuple, g_isi_list, g_bF_len, g_bF_repr, g_bF_max, g_bF_str, g_bF_int, g_bF_tuple, g_bF_all, g_bF_any, g_bF_list, g_b1_len, g_b1_repr, g_b1_max, g_b1_str, g_b1_int, g_b1_tuple, g_b1_all, g_mu_append, k_tbl, c_eqI, c_neI, c_ltI, c_gtI, c_geI, c_leI, c_eqL, c_neL, c_eqT, c_neT, c_isB, c_notB, c_eqS, ownD, asgL, t_bl, t_non, t_lst, t_tup, n_str, n_lst, n_tup, tu_lst, li_tup, li_lst, i_int, i1_int, it_lst, it_tup, rv_tup, at_tup, o_some, g_tupL, g_lstL, sl_tup, b_addI, b_subI, b_addB, b_subB, b_subIB, bw_con, tw_con, et_con, bw_glob, tw_glob, et_glob, bw_bin, tw_bin, et_bin, bw_neg, tw_neg, et_neg, bw_nt, tw_nt, bw_and, tw_and, bw_or, tw_or, bw_cmp, tw_cmp, et_cmp, bw_chain, tw_chain, et_chain, bw_ife, tw_ife, et_ife, bw_tup, tw_tup, et_tup, bw_lst, tw_lst, et_lst, bw_dnew, tw_dnew, et_dnew, bw_sub, tw_sub, et_sub, bw_slc, tw_slc, et_slc, bw_rev, tw_rev, et_rev, bw_call, tw_call, et_call, bw_callK, tw_callK, et_callK, bw_b1, tw_b1, et_b1, bw_mth, tw_mth, et_mth, bw_mut, tw_mut, et_mut, bw_isi, tw_isi, et_isi, bw_lc, tw_lc, et_lc, bw_sset, tw_sset, et_sset, et_var, List.getElem?_cons_zero, List.getElem?_cons_succ, List.set_cons_zero, List.set_cons_succ, List.length_cons, List.length_nil, Option.map_some, if_true, if_false, Bool.false_eq_true, Nat.zero_add, Nat.reduceAdd, Nat.reduceLT, Nat.reduceLeDiff, List.zip_cons_cons, List.zip_nil_left, List.zip_nil_right, List.foldl_cons, List.foldl_nil, Bool.not_true, Bool.not_false, decide_true, decide_false], _, w', by unfold drawX; simp only [exSs_cons, exSs_nil, exS_ret, exS_retN, exS_asg, exS_asgO, exS_asgT, exS_par2, exS_ex, exS_ifs, exS_for, for_nil, for_cons, fo_some, fr_nx, fr_rt, as_nm, as_tup, ev_var, ev_con, ev_bin, ev_cmp, ev_chain, ev_nt, ev_and, ev_or, ev_ife, ev_tup, ev_lst, ev_dnew, ev_sub, ev_slc, ev_rev, ev_call, ev_callK, ev_b1, ev_mut, ev_isi, evs_nil, evs_cons, evO_nil, evO_one, evT_and, evT_or, evT_nt, evI_val, evI_range1, evTs_nil, evTs_one, q_bind, q_bindS, q_of, q_at, q_rw, q_seq_nx, q_seq_rt, q_var, vd_dat, vd_own, q_rd, rdo_dat, rdo_own, q_brw_var, thV_some, twV_some, q_two_var, q_and, q_or, q_chain, q_callD, q_callKD, kiR_some, q_b1F, q_b1, q_isi, q_mut, q_ownK, oko_own, kindD, q_mutD, mdo_own, mdr_some, g_fn, g_ki, g_tru, g_cmp, g_bin, gg_get, g_slc, g_rev, g_it, g_isi_int, g_isi_bool, g_isi_str, g_isi_tuple, g_isi_list, g_bF_len, g_bF_repr, g_bF_max, g_bF_str, g_bF_int, g_bF_tuple, g_bF_all, g_bF_any, g_bF_list, g_b1_len, g_b1_repr, g_b1_max, g_b1_str, g_b1_int, g_b1_tuple, g_b1_all, g_mu_append, k_tbl, c_eqI, c_neI, c_ltI, c_gtI, c_geI, c_leI, c_eqL, c_neL, c_eqT, c_neT, c_isB, c_notB, c_eqS, ownD, asgL, t_bl, t_non, t_lst, t_tup, n_str, n_lst, n_tup, tu_lst, li_tup, li_lst, i_int, i1_int, it_lst, it_tup, rv_tup, at_tup, o_some, g_tupL, g_lstL, sl_tup, b_addI, b_subI, b_addB, b_subB, b_subIB, bw_con, tw_con, et_con, bw_glob, tw_glob, et_glob, bw_bin, tw_bin, et_bin, bw_neg, tw_neg, et_neg, bw_nt, tw_nt, bw_and, tw_and, bw_or, tw_or, bw_cmp, tw_cmp, et_cmp, bw_chain, tw_chain, et_chain, bw_ife, tw_ife, et_ife, bw_tup, tw_tup, et_tup, bw_lst, tw_lst, et_lst, bw_dnew, tw_dnew, et_dnew, bw_sub, tw_sub, et_sub, bw_slc, tw_slc, et_slc, bw_rev, tw_rev, et_rev, bw_call, tw_call, et_call, bw_callK, tw_callK, et_callK, bw_b1, tw_b1, et_b1, bw_mth, tw_mth, et_mth, bw_mut, tw_mut, et_mut, bw_isi, tw_isi, et_isi, bw_lc, tw_lc, et_lc, bw_sset, tw_sset, et_sset, et_var, List.getElem?_cons_zero, List.getElem?_cons_succ, List.set_cons_zero, List.set_cons_succ, List.length_cons, List.length_nil, Option.map_some, if_true, if_false, Bool.false_eq_true, Nat.zero_add, Nat.reduceAdd, Nat.reduceLT, Nat.reduceLeDiff, List.zip_cons_cons, List.zip_nil_left, List.zip_nil_right, List.foldl_cons, List.foldl_nil, Bool.not_true, Bool.not_false, decide_true, decide_false, fl_hit, e], ⟨v, rfl, h1, h2⟩, by rw [← Nat.add_assoc]; exact h3⟩) (fun d _ => rfl) (by rw [ints_len]; simp; omega) (by rw [ints_len]; omega) h
  rw [ints_len] at h1 h3
  rw [Nat.zero_add] at h3
  refine ⟨.tup ns, w', ?_, ⟨ns, rfl, h1, h2⟩, h3⟩
  have hr : evI (gD m) (.range1 (.var "_law_wide" 3)) [.dat .deck, S, .dat (.int base), .dat (.int a), T, f, g, .emp, .dat x] w = _ := evI_rngV rfl ha
  unfold rowX
  rw [ev_b1, g_bF_tuple, g_b1_tuple, q_b1, bw_lc, ev_lc, hr]
  simp only [List.map_cons, List.map_nil, q_bind, e, List.nil_append, tu_lst, q_rw, q_at]
theorem tab_eq {m base : Int} {a b : Nat} {S f g : Sl} {c : Nat} {w : DW} (h : WS c w) (hc : c + a * b < 900000) (h0 : 0 < base) (hb : base ≤ 10 ^ 40) (ha : a ≤ 1000) (hb' : b ≤ 1000) :
    ∃ d w', ev (gD m) tabX [.dat .deck, S, .dat (.int base), .dat (.int a), .dat (.int b), f, g, .emp, .emp] w = .ok d [.dat .deck, S, .dat (.int base), .dat (.int a), .dat (.int b), f, g, .emp, .emp] w' ∧ TabP base a b d ∧ WS (c + a * b) w' := by
  obtain ⟨ns, w', e, h1, h2, h3⟩ := lc_relN (tg := .nm "_law_j" 8) (own := [8]) (t := evTs (gD m) .nil) (f := ev (gD m) rowX)
    (ρ := [.dat .deck, S, .dat (.int base), .dat (.int a), .dat (.int b), f, g, .emp, .emp]) b (RowP base a) (fun n w => WS (c + a * n) w) (fun d => [.dat .deck, S, .dat (.int base), .dat (.int a), .dat (.int b), f, g, .emp, .dat d]) rfl (ds := intsD 0 b) (acc := []) (n := 0) (w := w) (fun d _ => rfl) (fun d hd n w hn s => by
      have hle : a * n + a ≤ a * b := by rw [← Nat.mul_succ]; exact Nat.mul_le_mul_left a hn
      obtain ⟨v, w', e, h1, h2⟩ := row_eq (m := m) (S := S) (T := .dat (.int b)) (f := f) (g := g) (x := d) s (by omega) h0 hb ha
      exact ⟨by simp only [exSs_cons, exSs_nil, exS_ret, exS_retN, exS_asg, exS_asgO, exS_asgT, exS_par2, exS_ex, exS_ifs, exS_for, for_nil, for_cons, fo_some, fr_nx, fr_rt, as_nm, as_tup, ev_var, ev_con, ev_bin, ev_cmp, ev_chain, ev_nt, ev_and, ev_or, ev_ife, ev_tup, ev_lst, ev_dnew, ev_sub, ev_slc, ev_rev, ev_call, ev_callK, ev_b1, ev_mut, ev_isi, evs_nil, evs_cons, evO_nil, evO_one, evT_and, evT_or, evT_nt, evI_val, evI_range1, evTs_nil, evTs_one, q_bind, q_bindS, q_of, q_at, q_rw, q_seq_nx, q_seq_rt, q_var, vd_dat, vd_own, q_rd, rdo_dat, rdo_own, q_brw_var, thV_some, twV_some, q_two_var, q_and, q_or, q_chain, q_callD, q_callKD, kiR_some, q_b1F, q_b1, q_isi, q_mut, q_ownK, oko_own, kindD, q_mutD, mdo_own, mdr_some, g_fn, g_ki, g_tru, g_cmp, g_bin, gg_get, g_slc, g_rev, g_it, g_isi_int, g_isi_bool, g_isi_str, g_isi_tuple, g_isi_list, g_bF_len, g_bF_repr, g_bF_max, g_bF_str, g_bF_int, g_bF_tuple, g_bF_all, g_bF_any, g_bF_list, g_b1_len, g_b1_repr, g_b1_max, g_b1_str, g_b1_int, g_b1_tuple, g_b1_all, g_mu_append, k_tbl, c_eqI, c_neI, c_ltI, c_gtI, c_geI, c_leI, c_eqL, c_neL, c_eqT, c_neT, c_isB, c_notB, c_eqS, ownD, asgL, t_bl, t_non, t_lst, t_tup, n_str, n_lst, n_tup, tu_lst, li_tup, li_lst, i_int, i1_int, it_lst, it_tup, rv_tup, at_tup, o_some, g_tupL, g_lstL, sl_tup, b_addI, b_subI, b_addB, b_subB, b_subIB, bw_con, tw_con, et_con, bw_glob, tw_glob, et_glob, bw_bin, tw_bin, et_bin, bw_neg, tw_neg, et_neg, bw_nt, tw_nt, bw_and, tw_and, bw_or, tw_or, bw_cmp, tw_cmp, et_cmp, bw_chain, tw_chain, et_chain, bw_ife, tw_ife, et_ife, bw_tup, tw_tup, et_tup, bw_lst, tw_lst, et_lst, bw_dnew, tw_dnew, et_dnew, bw_sub, tw_sub, et_sub, bw_slc, tw_slc, et_slc, bw_rev, tw_rev, et_rev, bw_call, tw_call, et_call, bw_callK, tw_callK, et_callK, bw_b1, tw_b1, et_b1, bw_mth, tw_mth, et_mth, bw_mut, tw_mut, et_mut, bw_isi, tw_isi, et_isi, bw_lc, tw_lc, et_lc, bw_sset, tw_sset, et_sset, et_var, List.getElem?_cons_zero, List.getElem?_cons_succ, List.set_cons_zero, List.set_cons_succ, List.length_cons, List.length_nil, Option.map_some, if_true, if_false, Bool.false_eq_true, Nat.zero_add, Nat.reduceAdd, Nat.reduceLT, Nat.reduceLeDiff, List.zip_cons_cons, List.zip_nil_left, List.zip_nil_right, List.foldl_cons, List.foldl_nil, Bool.not_true, Bool.not_false, decide_true, decide_false], _, w', e, h1, by rw [Nat.mul_succ, ← Nat.add_assoc]; exact h2⟩) (fun d _ => rfl) (by rw [ints_len]; simp; omega) (by rw [ints_len]; omega) h
  rw [ints_len] at h1 h3
  rw [Nat.zero_add] at h3
  refine ⟨.tup ns, w', ?_, ⟨ns, rfl, h1, h2⟩, h3⟩
  have hr : evI (gD m) (.range1 (.var "_law_tall" 4)) [.dat .deck, S, .dat (.int base), .dat (.int a), .dat (.int b), f, g, .emp, .emp] w = _ := evI_rngV rfl hb'
  unfold tabX
  rw [ev_b1, g_bF_tuple, g_b1_tuple, q_b1, bw_lc, ev_lc, hr]
  simp only [List.map_cons, List.map_nil, q_bind, e, List.nil_append, tu_lst, q_rw, q_at]
theorem tabs_go {m base : Int} {a b : Nat} {S : Sl} (h0 : 0 < base) (hb : base ≤ 10 ^ 40) (ha : a ≤ 5) (hb' : b ≤ 5) : ∀ (ss ts : List D) (g : Sl) (c : Nat) (w : DW), WS c w → c + 25 * ss.length < 900000 → ts.length + ss.length ≤ 1000 → (∀ t ∈ ts, TabP base a b t) →
    ∃ us g' w', forD (.nm "_law_sign" 6) (exSs (gD m) tabsBody) ss [.dat .deck, S, .dat (.int base), .dat (.int a), .dat (.int b), .own (.lst ts), g, .emp, .emp] w = .nx [.dat .deck, S, .dat (.int base), .dat (.int a), .dat (.int b), .own (.lst us), g', .emp, .emp] w' ∧ us.length = ts.length + ss.length ∧ (∀ t ∈ us, TabP base a b t) ∧ WS (c + 25 * ss.length) w'
  | [], ts, g, c, w, h, _, _, ht => ⟨ts, g, w, by simp only [exSs_cons, exSs_nil, exS_ret, exS_retN, exS_asg, exS_asgO, exS_asgT, exS_par2, exS_ex, exS_ifs, exS_for, for_nil, for_cons, fo_some, fr_nx, fr_rt, as_nm, as_tup, ev_var, ev_con, ev_bin, ev_cmp, ev_chain, ev_nt, ev_and, ev_or, ev_ife, ev_tup, ev_lst, ev_dnew, ev_sub, ev_slc, ev_rev, ev_call, ev_callK, ev_b1, ev_mut, ev_isi, evs_nil, evs_cons, evO_nil, evO_one, evT_and, evT_or, evT_nt, evI_val, evI_range1, evTs_nil, evTs_one, q_bind, q_bindS, q_of, q_at, q_rw, q_seq_nx, q_seq_rt, q_var, vd_dat, vd_own, q_rd, rdo_dat, rdo_own, q_brw_var, thV_some, twV_some, q_two_var, q_and, q_or, q_chain, q_callD, q_callKD, kiR_some, q_b1F, q_b1, q_isi, q_mut, q_ownK, oko_own, kindD, q_mutD, mdo_own, mdr_some, g_fn, g_ki, g_tru, g_cmp, g_bin, gg_get, g_slc, g_rev, g_it, g_isi_int, g_isi_bool, g_isi_str, g_isi_tuple, g_isi_list, g_bF_len, g_bF_repr, g_bF_max, g_bF_str, g_bF_int, g_bF_tuple, g_bF_all, g_bF_any, g_bF_list, g_b1_len, g_b1_repr, g_b1_max, g_b1_str, g_b1_int, g_b1_tuple, g_b1_all, g_mu_append, k_tbl, c_eqI, c_neI, c_ltI, c_gtI, c_geI, c_leI, c_eqL, c_neL, c_eqT, c_neT, c_isB, c_notB, c_eqS, ownD, asgL, t_bl, t_non, t_lst, t_tup, n_str, n_lst, n_tup, tu_lst, li_tup, li_lst, i_int, i1_int, it_lst, it_tup, rv_tup, at_tup, o_some, g_tupL, g_lstL, sl_tup, b_addI, b_subI, b_addB, b_subB, b_subIB, bw_con, tw_con, et_con, bw_glob, tw_glob, et_glob, bw_bin, tw_bin, et_bin, bw_neg, tw_neg, et_neg, bw_nt, tw_nt, bw_and, tw_and, bw_or, tw_or, bw_cmp, tw_cmp, et_cmp, bw_chain, tw_chain, et_chain, bw_ife, tw_ife, et_ife, bw_tup, tw_tup, et_tup, bw_lst, tw_lst, et_lst, bw_dnew, tw_dnew, et_dnew, bw_sub, tw_sub, et_sub, bw_slc, tw_slc, et_slc, bw_rev, tw_rev, et_rev, bw_call, tw_call, et_call, bw_callK, tw_callK, et_callK, bw_b1, tw_b1, et_b1, bw_mth, tw_mth, et_mth, bw_mut, tw_mut, et_mut, bw_isi, tw_isi, et_isi, bw_lc, tw_lc, et_lc, bw_sset, tw_sset, et_sset, et_var, List.getElem?_cons_zero, List.getElem?_cons_succ, List.set_cons_zero, List.set_cons_succ, List.length_cons, List.length_nil, Option.map_some, if_true, if_false, Bool.false_eq_true, Nat.zero_add, Nat.reduceAdd, Nat.reduceLT, Nat.reduceLeDiff, List.zip_cons_cons, List.zip_nil_left, List.zip_nil_right, List.foldl_cons, List.foldl_nil, Bool.not_true, Bool.not_false, decide_true, decide_false], by simp, ht, h⟩
  | s :: ss, ts, g, c, w, h, hc, hl, ht => by
    rw [List.length_cons] at hc hl
    have hab : a * b ≤ 25 := Nat.mul_le_mul ha hb'
    obtain ⟨t, w1, e1, h1, h2⟩ := tab_eq (m := m) (a := a) (b := b) (S := S) (f := .own (.lst ts)) (g := .dat s) h (by omega) h0 hb (by omega) (by omega)
    obtain ⟨us, g', w', e, k1, k2, k3⟩ := tabs_go (m := m) (S := S) h0 hb ha hb' ss (ts ++ [t]) (.dat s) (c + 25) w1 (h2.mono (by omega)) (by omega) (by rw [List.length_append]; simp; omega) (fun x hx => by
      rcases List.mem_append.mp hx with z | z
      · exact ht x z
      · rw [List.mem_singleton.mp z]; exact h1)
    refine ⟨us, g', w', ?_, by rw [k1, List.length_append]; simp; omega, k2, k3.mono (by rw [List.length_cons]; omega)⟩
    rw [for_cons, as_nm, fo_some]
    simp only [List.set_cons_zero, List.set_cons_succ]
    unfold tabsBody at e ⊢
    have hm : ∀ es : En → DW → R (List D), mutGD (some (4, appendF)) 5 es [.dat .deck, S, .dat (.int base), .dat (.int a), .dat (.int b), .own (.lst ts), .dat s, .emp, .emp] w = _ := fun es => q_app rfl
    simp only [exSs_cons, exSs_nil, exS_ret, exS_retN, exS_asg, exS_asgO, exS_asgT, exS_par2, exS_ex, exS_ifs, exS_for, for_nil, for_cons, fo_some, fr_nx, fr_rt, as_nm, as_tup, ev_var, ev_con, ev_bin, ev_cmp, ev_chain, ev_nt, ev_and, ev_or, ev_ife, ev_tup, ev_lst, ev_dnew, ev_sub, ev_slc, ev_rev, ev_call, ev_callK, ev_b1, ev_mut, ev_isi, evs_nil, evs_cons, evO_nil, evO_one, evT_and, evT_or, evT_nt, evI_val, evI_range1, evTs_nil, evTs_one, q_bind, q_bindS, q_of, q_at, q_rw, q_seq_nx, q_seq_rt, q_var, vd_dat, vd_own, q_rd, rdo_dat, rdo_own, q_brw_var, thV_some, twV_some, q_two_var, q_and, q_or, q_chain, q_callD, q_callKD, kiR_some, q_b1F, q_b1, q_isi, q_mut, q_ownK, oko_own, kindD, q_mutD, mdo_own, mdr_some, g_fn, g_ki, g_tru, g_cmp, g_bin, gg_get, g_slc, g_rev, g_it, g_isi_int, g_isi_bool, g_isi_str, g_isi_tuple, g_isi_list, g_bF_len, g_bF_repr, g_bF_max, g_bF_str, g_bF_int, g_bF_tuple, g_bF_all, g_bF_any, g_bF_list, g_b1_len, g_b1_repr, g_b1_max, g_b1_str, g_b1_int, g_b1_tuple, g_b1_all, g_mu_append, k_tbl, c_eqI, c_neI, c_ltI, c_gtI, c_geI, c_leI, c_eqL, c_neL, c_eqT, c_neT, c_isB, c_notB, c_eqS, ownD, asgL, t_bl, t_non, t_lst, t_tup, n_str, n_lst, n_tup, tu_lst, li_tup, li_lst, i_int, i1_int, it_lst, it_tup, rv_tup, at_tup, o_some, g_tupL, g_lstL, sl_tup, b_addI, b_subI, b_addB, b_subB, b_subIB, bw_con, tw_con, et_con, bw_glob, tw_glob, et_glob, bw_bin, tw_bin, et_bin, bw_neg, tw_neg, et_neg, bw_nt, tw_nt, bw_and, tw_and, bw_or, tw_or, bw_cmp, tw_cmp, et_cmp, bw_chain, tw_chain, et_chain, bw_ife, tw_ife, et_ife, bw_tup, tw_tup, et_tup, bw_lst, tw_lst, et_lst, bw_dnew, tw_dnew, et_dnew, bw_sub, tw_sub, et_sub, bw_slc, tw_slc, et_slc, bw_rev, tw_rev, et_rev, bw_call, tw_call, et_call, bw_callK, tw_callK, et_callK, bw_b1, tw_b1, et_b1, bw_mth, tw_mth, et_mth, bw_mut, tw_mut, et_mut, bw_isi, tw_isi, et_isi, bw_lc, tw_lc, et_lc, bw_sset, tw_sset, et_sset, et_var, List.getElem?_cons_zero, List.getElem?_cons_succ, List.set_cons_zero, List.set_cons_succ, List.length_cons, List.length_nil, Option.map_some, if_true, if_false, Bool.false_eq_true, Nat.zero_add, Nat.reduceAdd, Nat.reduceLT, Nat.reduceLeDiff, List.zip_cons_cons, List.zip_nil_left, List.zip_nil_right, List.foldl_cons, List.foldl_nil, Bool.not_true, Bool.not_false, decide_true, decide_false, hm, e1, q_append (show ts.length < lim by unfold lim; omega), e]
theorem tables_eq {m base : Int} {a b : Nat} {s : Str} {c : Nat} {w : DW} (h0 : 0 < base) (hb : base ≤ 10 ^ 40) (ha : a ≤ 5) (hb' : b ≤ 5) (h : WS c w) (hc : c + 25 * s.length < 900000) (hs : s.length ≤ 1000) :
    ∃ ts w', F_tables m [.deck, .str s, .int base, .int a, .int b] w = .ok (.tup ts) w' ∧ ts.length = s.length ∧ (∀ t ∈ ts, TabP base a b t) ∧ WS (c + 25 * s.length) w' := by
  have hl : (s.cps.toList.map fun c => D.str ⟨#[c]⟩).length = s.length := by rw [List.length_map]; rfl
  obtain ⟨us, g', w', e, k1, k2, k3⟩ := tabs_go (m := m) (S := .dat (.str s)) h0 hb ha hb' (s.cps.toList.map fun c => D.str ⟨#[c]⟩) [] .emp c w h (by rw [hl]; exact hc) (by rw [hl]; simpa using hs) (fun t ht => absurd ht List.not_mem_nil)
  rw [hl] at k1 k3
  refine ⟨us, w', q_run rfl ?_, by simpa using k1, k2, k3⟩
  show exSs _ b_l_tables [.dat .deck, .dat (.str s), .dat (.int base), .dat (.int a), .dat (.int b), .emp, .emp, .emp, .emp] w = _
  have eb : b_l_tables = (.cons (.asgO "_law_found" 5 (.lst .nil)) (.cons (.for_ (.nm "_law_sign" 6) (.val (.var "_law_signs" 1)) tabsBody) (.cons (.ret (.b1 "tuple" (.var "_law_found" 5))) .nil))) := rfl
  rw [eb]
  have hit : itD (.str s) = some (s.cps.toList.map fun c => D.str ⟨#[c]⟩) := rfl
  simp only [exSs_cons, exSs_nil, exS_ret, exS_retN, exS_asg, exS_asgO, exS_asgT, exS_par2, exS_ex, exS_ifs, exS_for, for_nil, for_cons, fo_some, fr_nx, fr_rt, as_nm, as_tup, ev_var, ev_con, ev_bin, ev_cmp, ev_chain, ev_nt, ev_and, ev_or, ev_ife, ev_tup, ev_lst, ev_dnew, ev_sub, ev_slc, ev_rev, ev_call, ev_callK, ev_b1, ev_mut, ev_isi, evs_nil, evs_cons, evO_nil, evO_one, evT_and, evT_or, evT_nt, evI_val, evI_range1, evTs_nil, evTs_one, q_bind, q_bindS, q_of, q_at, q_rw, q_seq_nx, q_seq_rt, q_var, vd_dat, vd_own, q_rd, rdo_dat, rdo_own, q_brw_var, thV_some, twV_some, q_two_var, q_and, q_or, q_chain, q_callD, q_callKD, kiR_some, q_b1F, q_b1, q_isi, q_mut, q_ownK, oko_own, kindD, q_mutD, mdo_own, mdr_some, g_fn, g_ki, g_tru, g_cmp, g_bin, gg_get, g_slc, g_rev, g_it, g_isi_int, g_isi_bool, g_isi_str, g_isi_tuple, g_isi_list, g_bF_len, g_bF_repr, g_bF_max, g_bF_str, g_bF_int, g_bF_tuple, g_bF_all, g_bF_any, g_bF_list, g_b1_len, g_b1_repr, g_b1_max, g_b1_str, g_b1_int, g_b1_tuple, g_b1_all, g_mu_append, k_tbl, c_eqI, c_neI, c_ltI, c_gtI, c_geI, c_leI, c_eqL, c_neL, c_eqT, c_neT, c_isB, c_notB, c_eqS, ownD, asgL, t_bl, t_non, t_lst, t_tup, n_str, n_lst, n_tup, tu_lst, li_tup, li_lst, i_int, i1_int, it_lst, it_tup, rv_tup, at_tup, o_some, g_tupL, g_lstL, sl_tup, b_addI, b_subI, b_addB, b_subB, b_subIB, bw_con, tw_con, et_con, bw_glob, tw_glob, et_glob, bw_bin, tw_bin, et_bin, bw_neg, tw_neg, et_neg, bw_nt, tw_nt, bw_and, tw_and, bw_or, tw_or, bw_cmp, tw_cmp, et_cmp, bw_chain, tw_chain, et_chain, bw_ife, tw_ife, et_ife, bw_tup, tw_tup, et_tup, bw_lst, tw_lst, et_lst, bw_dnew, tw_dnew, et_dnew, bw_sub, tw_sub, et_sub, bw_slc, tw_slc, et_slc, bw_rev, tw_rev, et_rev, bw_call, tw_call, et_call, bw_callK, tw_callK, et_callK, bw_b1, tw_b1, et_b1, bw_mth, tw_mth, et_mth, bw_mut, tw_mut, et_mut, bw_isi, tw_isi, et_isi, bw_lc, tw_lc, et_lc, bw_sset, tw_sset, et_sset, et_var, List.getElem?_cons_zero, List.getElem?_cons_succ, List.set_cons_zero, List.set_cons_succ, List.length_cons, List.length_nil, Option.map_some, if_true, if_false, Bool.false_eq_true, Nat.zero_add, Nat.reduceAdd, Nat.reduceLT, Nat.reduceLeDiff, List.zip_cons_cons, List.zip_nil_left, List.zip_nil_right, List.foldl_cons, List.foldl_nil, Bool.not_true, Bool.not_false, decide_true, decide_false, hit, e]
end DL.K17
set_option maxRecDepth 100000
set_option maxHeartbeats 4000000
set_option linter.all false
namespace DL.K17
open PySem PySem.Spec PyProof.Rows L2 DL
/-! ### a colouring is made -/
theorem b_pow {i j : Int} (h : powOk i j) : binX .Pow (.int i) (.int j) = some (.int (i ^ j.toNat)) := if_pos h
theorem b_pow6 : binX .Pow (.int 10) (.int 6) = some (.int 1000000) := by
  rw [b_pow ⟨by decide, by decide, by decide⟩]
  rfl
theorem b_pow40 : binX .Pow (.int 10) (.int 40) = some (.int (10 ^ 40)) := by
  have e : (40 : Int).toNat = 40 := rfl
  rw [b_pow ⟨by decide, by decide, by decide⟩, e]
def F_mk (m : Int) : Fn := runB (stdG (fl [("_law_draw", F_draw m), ("_law_pick", F_pick m), ("_law_tables", F_tables m)]) ki0) b_l_shade 2 5
theorem missA {F : Fn} {l : List (Str × Fn)} : fl (("_law_draw", F) :: l) "_law_pick" = fl l "_law_pick" := fl_miss (by decide)
theorem missB {F : Fn} {l : List (Str × Fn)} : fl (("_law_draw", F) :: l) "_law_tables" = fl l "_law_tables" := fl_miss (by decide)
theorem missC {F : Fn} {l : List (Str × Fn)} : fl (("_law_pick", F) :: l) "_law_tables" = fl l "_law_tables" := fl_miss (by decide)
theorem mk_eq {m : Int} {s : Str} {c : Nat} {w : DW} (h : WS c w) (hc : c + 200 < 900000) (hs : s.length ≤ 3) :
    ∃ (base : Int) (a b : Nat) (ts : List D) (w' : DW), F_mk m [.deck, .str s] w = .ok (.tup [.int base, .int a, .int b, .tup ts]) w' ∧ 2 ≤ base ∧ base ≤ 10 ^ 40 ∧ (1 ≤ a ∧ a ≤ 5) ∧ (1 ≤ b ∧ b ≤ 5) ∧ ts.length = s.length ∧ (∀ t ∈ ts, TabP base a b t) ∧ WS (c + 100) w' := by
  obtain ⟨x, w1, e1, h1, k1⟩ := pick_eq (m := m) (ds := [.int 2, .int 3, .int 4, .int 7, .int 12, .int 1000000, .int (10 ^ 40)]) h (by omega) (by simp) (by simp)
  have hx : ∃ base : Int, x = .int base ∧ 2 ≤ base ∧ base ≤ 10 ^ 40 := by
    have e40 : (1000 : Int) ≤ 10 ^ 40 := e40
    have e6 : (1000000 : Int) ≤ 10 ^ 40 := by decide
    simp only [List.mem_cons, List.not_mem_nil, or_false] at h1
    rcases h1 with z | z | z | z | z | z | z <;> exact ⟨_, z, by omega, by omega⟩
  obtain ⟨base, rfl, hb2, hb⟩ := hx
  have h5 : (5 : Int) ≤ 10 ^ 40 := by decide
  obtain ⟨v, w2, e2, l2, u2, k2⟩ := draw_eq (m := m) (many := 5) k1 (by omega) (by omega) h5
  obtain ⟨u, w3, e3, l3, u3, k3⟩ := draw_eq (m := m) (many := 5) k2 (by omega) (by omega) h5
  obtain ⟨a, ha⟩ : ∃ a : Nat, 1 + v = a := ⟨(1 + v).toNat, by omega⟩
  obtain ⟨b, hb'⟩ : ∃ b : Nat, 1 + u = b := ⟨(1 + u).toNat, by omega⟩
  obtain ⟨ts, w4, e4, h4, t4, k4⟩ := tables_eq (m := m) (s := s) (base := base) (a := a) (b := b) (by omega) hb (by omega) (by omega) k3 (by omega) (by omega)
  refine ⟨base, a, b, ts, w4, q_run rfl ?_, hb2, hb, by omega, by omega, h4, t4, k4.mono (by omega)⟩
  show exSs _ b_l_shade [.dat .deck, .dat (.str s), .emp, .emp, .emp] w = _
  unfold b_l_shade
  simp only [exSs_cons, exSs_nil, exS_ret, exS_retN, exS_asg, exS_asgO, exS_asgT, exS_par2, exS_ex, exS_ifs, exS_for, for_nil, for_cons, fo_some, fr_nx, fr_rt, as_nm, as_tup, ev_var, ev_con, ev_bin, ev_cmp, ev_chain, ev_nt, ev_and, ev_or, ev_ife, ev_tup, ev_lst, ev_dnew, ev_sub, ev_slc, ev_rev, ev_call, ev_callK, ev_b1, ev_mut, ev_isi, evs_nil, evs_cons, evO_nil, evO_one, evT_and, evT_or, evT_nt, evI_val, evI_range1, evTs_nil, evTs_one, q_bind, q_bindS, q_of, q_at, q_rw, q_seq_nx, q_seq_rt, q_var, vd_dat, vd_own, q_rd, rdo_dat, rdo_own, q_brw_var, thV_some, twV_some, q_two_var, q_and, q_or, q_chain, q_callD, q_callKD, kiR_some, q_b1F, q_b1, q_isi, q_mut, q_ownK, oko_own, kindD, q_mutD, mdo_own, mdr_some, g_fn, g_ki, g_tru, g_cmp, g_bin, gg_get, g_slc, g_rev, g_it, g_isi_int, g_isi_bool, g_isi_str, g_isi_tuple, g_isi_list, g_bF_len, g_bF_repr, g_bF_max, g_bF_str, g_bF_int, g_bF_tuple, g_bF_all, g_bF_any, g_bF_list, g_b1_len, g_b1_repr, g_b1_max, g_b1_str, g_b1_int, g_b1_tuple, g_b1_all, g_mu_append, k_tbl, c_eqI, c_neI, c_ltI, c_gtI, c_geI, c_leI, c_eqL, c_neL, c_eqT, c_neT, c_isB, c_notB, c_eqS, ownD, asgL, t_bl, t_non, t_lst, t_tup, n_str, n_lst, n_tup, tu_lst, li_tup, li_lst, i_int, i1_int, it_lst, it_tup, rv_tup, at_tup, o_some, g_tupL, g_lstL, sl_tup, b_addI, b_subI, b_addB, b_subB, b_subIB, bw_con, tw_con, et_con, bw_glob, tw_glob, et_glob, bw_bin, tw_bin, et_bin, bw_neg, tw_neg, et_neg, bw_nt, tw_nt, bw_and, tw_and, bw_or, tw_or, bw_cmp, tw_cmp, et_cmp, bw_chain, tw_chain, et_chain, bw_ife, tw_ife, et_ife, bw_tup, tw_tup, et_tup, bw_lst, tw_lst, et_lst, bw_dnew, tw_dnew, et_dnew, bw_sub, tw_sub, et_sub, bw_slc, tw_slc, et_slc, bw_rev, tw_rev, et_rev, bw_call, tw_call, et_call, bw_callK, tw_callK, et_callK, bw_b1, tw_b1, et_b1, bw_mth, tw_mth, et_mth, bw_mut, tw_mut, et_mut, bw_isi, tw_isi, et_isi, bw_lc, tw_lc, et_lc, bw_sset, tw_sset, et_sset, et_var, List.getElem?_cons_zero, List.getElem?_cons_succ, List.set_cons_zero, List.set_cons_succ, List.length_cons, List.length_nil, Option.map_some, if_true, if_false, Bool.false_eq_true, Nat.zero_add, Nat.reduceAdd, Nat.reduceLT, Nat.reduceLeDiff, List.zip_cons_cons, List.zip_nil_left, List.zip_nil_right, List.foldl_cons, List.foldl_nil, Bool.not_true, Bool.not_false, decide_true, decide_false, fl_hit, missA, missB, missC, b_pow6, b_pow40, e1, e2, e3, ha, hb', e4]
/-! ### bounded ints -/
mutual
def lw (M : Nat) : D → Bool
  | .int i => decide (i.natAbs ≤ M)
  | .lst ds => lws M ds
  | .tup ds => lws M ds
  | .non => true
  | .bl _ => true
  | .str s => lv (.str s)
  | .dK ks vs => lv (.dK ks vs)
  | _ => false
def lws (M : Nat) : List D → Bool
  | [] => true
  | d :: ds => lw M d && lws M ds
end
theorem lws_iff {M : Nat} : ∀ {ds : List D}, lws M ds = true ↔ ∀ d ∈ ds, lw M d = true
  | [] => by simp [lws]
  | d :: ds => by simp [lws, lws_iff (ds := ds)]
def MX : Nat := 10 ^ 40 + 100
theorem lgx {i : Int} (h : i.natAbs ≤ MX) : i.natAbs.log2 < 200 := by
  by_cases z : i.natAbs = 0
  · rw [z]; decide
  rw [Nat.log2_lt z]
  exact Nat.lt_of_le_of_lt h (by decide)
mutual
theorem lw_lv {M : Nat} (hM : M ≤ MX) : ∀ d : D, lw M d = true → lv d = true
  | .int i, h => by
    rw [lw, decide_eq_true_eq] at h
    rw [lv, decide_eq_true_eq]
    exact lgx (Nat.le_trans h hM)
  | .lst ds, h => by rw [lv]; exact lws_lvs hM ds (by rw [lw] at h; exact h)
  | .tup ds, h => by rw [lv]; exact lws_lvs hM ds (by rw [lw] at h; exact h)
  | .non, _ => rfl
  | .bl _, _ => rfl
  | .str s, h => by rw [lw] at h; exact h
  | .dK ks vs, h => by rw [lw] at h; exact h
  | .dT _ _, h => by rw [lw] at h <;> first | (exact absurd h Bool.false_ne_true) | (intros; contradiction)
  | .ins _ _ _, h => by rw [lw] at h <;> first | (exact absurd h Bool.false_ne_true) | (intros; contradiction)
  | .deck, h => by rw [lw] at h <;> first | (exact absurd h Bool.false_ne_true) | (intros; contradiction)
theorem lws_lvs {M : Nat} (hM : M ≤ MX) : ∀ ds : List D, lws M ds = true → lvs ds = true
  | [], _ => by rw [lvs]
  | d :: ds, h => by
    rw [lws, Bool.and_eq_true] at h
    rw [lvs, Bool.and_eq_true]
    exact ⟨lw_lv hM d h.1, lws_lvs hM ds h.2⟩
end
mutual
theorem lw_mono {M N : Nat} (hM : M ≤ N) : ∀ d : D, lw M d = true → lw N d = true
  | .int i, h => by
    rw [lw, decide_eq_true_eq] at h ⊢
    omega
  | .lst ds, h => by rw [lw] at h ⊢; exact lws_mono hM ds h
  | .tup ds, h => by rw [lw] at h ⊢; exact lws_mono hM ds h
  | .non, _ => by rw [lw]
  | .bl _, _ => by rw [lw]
  | .str s, h => by rw [lw] at h ⊢; exact h
  | .dK ks vs, h => by rw [lw] at h ⊢; exact h
  | .dT _ _, h => by rw [lw] at h <;> first | (exact absurd h Bool.false_ne_true) | (intros; contradiction)
  | .ins _ _ _, h => by rw [lw] at h <;> first | (exact absurd h Bool.false_ne_true) | (intros; contradiction)
  | .deck, h => by rw [lw] at h <;> first | (exact absurd h Bool.false_ne_true) | (intros; contradiction)
theorem lws_mono {M N : Nat} (hM : M ≤ N) : ∀ ds : List D, lws M ds = true → lws N ds = true
  | [], _ => by rw [lws]
  | d :: ds, h => by
    rw [lws, Bool.and_eq_true] at h ⊢
    exact ⟨lw_mono hM d h.1, lws_mono hM ds h.2⟩
end
theorem cut_take (ds : List D) (n : Nat) : cutD ds none (some (n : Int)) = ds.take n := by
  unfold cutD
  rw [HT.sIx_nat, HT.sIx_none, List.drop_zero, Nat.sub_zero]
  by_cases h : n ≤ ds.length
  · rw [Nat.min_eq_left h]
  · rw [Nat.min_eq_right (by omega), List.take_of_length_le (Nat.le_refl _), List.take_of_length_le (by omega)]
theorem cut_drop (ds : List D) (n : Nat) : cutD ds (some (n : Int)) none = ds.drop n := by
  unfold cutD
  rw [HT.sIx_nat, HT.sIx_none]
  by_cases h : n ≤ ds.length
  · rw [Nat.min_eq_left h, List.take_of_length_le (by rw [List.length_drop]; exact Nat.le_refl _)]
  · rw [Nat.min_eq_right (by omega), Nat.sub_self, List.take_zero, List.drop_of_length_le (by omega)]
theorem b_addT {a b : List D} (h : a.length + b.length ≤ lim) : binX .Add (.tup a) (.tup b) = some (.tup (a ++ b)) := if_pos h
theorem b_addL {a b : List D} (h : a.length + b.length ≤ lim) : binX .Add (.lst a) (.lst b) = some (.lst (a ++ b)) := if_pos h
end DL.K17
set_option maxRecDepth 100000
set_option maxHeartbeats 4000000
set_option linter.all false
namespace DL.K17
open PySem PySem.Spec PyProof.Rows L2 DL
/-! ### what is bent -/
theorem lv_strI {i : Int} (h : i.natAbs.log2 < 200) : lv (.str (toString i)) = true := by
  rw [lv, Bool.and_eq_true, decide_eq_true_eq, List.all_eq_true]
  refine ⟨?_, fun c hc => ?_⟩
  · rw [PySem.ofString_length]
    have := int_text_length_le (k := 200) (by decide) h
    omega
  · rw [decide_eq_true_eq]
    rw [Str.ofString_eq_toList] at hc
    obtain ⟨x, _, rfl⟩ := List.mem_map.mp (show c ∈ (toString i).toList.map Char.toNat from by simpa using hc)
    have : x.toNat < 2 ^ 32 := x.val.toNat_lt
    have e : (16 : Nat) ^ 8 = 2 ^ 32 := by decide
    omega
theorem s_int {i : Int} (h : i.natAbs.log2 < 200) : strX (.int i) = some (.str (toString i)) := if_pos (by omega)
theorem s_bl {b : Bool} : strX (.bl b) = some (.str (if b then "True" else "False")) := rfl
theorem x_pick {m : Int} {D0 : DW → Prop} {ds : List D} {w : DW} {c : Nat} {P : D → Prop} (h : WS c w) (hc : c < 900000) (hd : 0 < ds.length) (hb : ds.length ≤ 1000) (hp : ∀ d ∈ ds, P d) : ∃ x w', F_pick m [.deck, .lst ds] w = .ok x w' ∧ P x ∧ WS (c + 1) w' := by
  obtain ⟨x, w', e, h1, h2⟩ := pick_eq (m := m) h hc hd hb
  exact ⟨x, w', e, hp x h1, h2⟩
/-- what is bent of d -/
def BP (M : Nat) (d d' : D) : Prop := lw (M + 1) d' = true ∧ sz d' ≤ 2 * sz d + 20 ∧ dh d' ≤ dh d + 3
def bentG (F Fp Fb : Fn) : Gm := stdG (fl [("_law_draw", F), ("_law_pick", Fp), ("_law_bent", Fb)]) ki0
theorem missD {F : Fn} {l : List (Str × Fn)} : fl (("_law_draw", F) :: l) "_law_bent" = fl l "_law_bent" := fl_miss (by decide)
theorem missE {F : Fn} {l : List (Str × Fn)} : fl (("_law_pick", F) :: l) "_law_bent" = fl l "_law_bent" := fl_miss (by decide)
def tailOf : PYs → PYs
  | .cons _ ps => ps
  | .nil => .nil
def bentTail : PYs := tailOf b_l_bent
def thenOf : PYs → PYs
  | .cons (.ifs _ a _) _ => a
  | _ => .nil
def bentThen : PYs := thenOf b_l_bent
theorem leaf {m : Int} {M : Nat} {Fb : Fn} {d : D} {deep : Nat} {w : DW} {c : Nat} {s3 s4 : Sl} (hM0 : 10 ^ 40 ≤ M) (hM : M + 1 ≤ MX) (h : WS c w) (hc : c < 800000) (hd : lw M d = true) :
    ∃ d' w', exSs (stdG (fl [("_law_draw", F_draw m), ("_law_pick", F_pick m), ("_law_bent", Fb)]) ki0) bentTail [.dat .deck, .dat d, .dat (.int deep), s3, s4] w = .rt d' w' ∧ BP M d d' ∧ WS (c + 1) w' := by
  have hv := lw_lv (by omega) d hd
  have hk := k_int (lv_okT hv)
  have eb : bentTail = tailOf b_l_bent := rfl
  rw [eb]
  unfold b_l_bent tailOf
  have other : intB d = false → ∃ d' w', F_pick m [.deck, .lst [.non, .tup [], .lst [], .dK [] [], .str "x", .int 0, .bl true, .tup [.tup []], .tup [.tup [.int 0]]]] w = .ok d' w' ∧ BP M d d' ∧ WS (c + 1) w' := fun hi => by
    refine x_pick (D0 := fun _ => True) h (by omega) (by simp) (by simp) fun x hx => ?_
    have := sz_pos d
    simp only [List.mem_cons, List.not_mem_nil, or_false] at hx
    rcases hx with rfl | rfl | rfl | rfl | rfl | rfl | rfl | rfl | rfl <;> refine ⟨by simp [lw, lws]; try decide, by simp [sz, szs]; try omega, by simp [dh, dhs]; try omega⟩
  cases d <;> first | (exact absurd hd Bool.false_ne_true) | skip
  case int i =>
    rw [lw, decide_eq_true_eq] at hd
    obtain ⟨x, w', e, hP, hw⟩ := x_pick (m := m) (D0 := fun _ => True) (ds := [.int (i + 1), .int (i - 1), .int (0 - i), .int 0, .int 1, .int 2, .bl true, .str (toString i), .non, .tup [.int i], .int (10 ^ 40)]) (P := BP M (.int i)) h (by omega) (by simp) (by simp) fun x hx => by
      have h10 : (10 : Nat) ≤ 10 ^ 40 := by decide
      have hN : ((10 : Int) ^ 40).natAbs = 10 ^ 40 := by decide
      have hst := lv_strI (i := i) (lgx (by omega))
      simp only [List.mem_cons, List.not_mem_nil, or_false] at hx
      rcases hx with rfl | rfl | rfl | rfl | rfl | rfl | rfl | rfl | rfl | rfl | rfl <;> refine ⟨?_, by simp [sz, szs], by simp [dh, dhs]⟩ <;> simp only [lw, lws, Bool.and_true, decide_eq_true_eq, hst] <;> omega
    refine ⟨x, w', ?_, hP, hw⟩
    simp only [exSs_cons, exSs_nil, exS_ret, exS_retN, exS_asg, exS_asgO, exS_asgT, exS_par2, exS_ex, exS_ifs, exS_for, for_nil, for_cons, fo_some, fr_nx, fr_rt, as_nm, as_tup, ev_var, ev_con, ev_bin, ev_cmp, ev_chain, ev_nt, ev_and, ev_or, ev_ife, ev_tup, ev_lst, ev_dnew, ev_sub, ev_slc, ev_rev, ev_call, ev_callK, ev_b1, ev_mut, ev_isi, evs_nil, evs_cons, evO_nil, evO_one, evT_and, evT_or, evT_nt, evI_val, evI_range1, evTs_nil, evTs_one, q_bind, q_bindS, q_of, q_at, q_rw, q_seq_nx, q_seq_rt, q_var, vd_dat, vd_own, q_rd, rdo_dat, rdo_own, q_brw_var, thV_some, twV_some, q_two_var, q_and, q_or, q_chain, q_callD, q_callKD, kiR_some, q_b1F, q_b1, q_isi, q_mut, q_ownK, oko_own, kindD, q_mutD, mdo_own, mdr_some, g_fn, g_ki, g_tru, g_cmp, g_bin, gg_get, g_slc, g_rev, g_it, g_isi_int, g_isi_bool, g_isi_str, g_isi_tuple, g_isi_list, g_bF_len, g_bF_repr, g_bF_max, g_bF_str, g_bF_int, g_bF_tuple, g_bF_all, g_bF_any, g_bF_list, g_b1_len, g_b1_repr, g_b1_max, g_b1_str, g_b1_int, g_b1_tuple, g_b1_all, g_mu_append, k_tbl, c_eqI, c_neI, c_ltI, c_gtI, c_geI, c_leI, c_eqL, c_neL, c_eqT, c_neT, c_isB, c_notB, c_eqS, ownD, asgL, t_bl, t_non, t_lst, t_tup, n_str, n_lst, n_tup, tu_lst, li_tup, li_lst, i_int, i1_int, it_lst, it_tup, rv_tup, at_tup, o_some, g_tupL, g_lstL, sl_tup, b_addI, b_subI, b_addB, b_subB, b_subIB, bw_con, tw_con, et_con, bw_glob, tw_glob, et_glob, bw_bin, tw_bin, et_bin, bw_neg, tw_neg, et_neg, bw_nt, tw_nt, bw_and, tw_and, bw_or, tw_or, bw_cmp, tw_cmp, et_cmp, bw_chain, tw_chain, et_chain, bw_ife, tw_ife, et_ife, bw_tup, tw_tup, et_tup, bw_lst, tw_lst, et_lst, bw_dnew, tw_dnew, et_dnew, bw_sub, tw_sub, et_sub, bw_slc, tw_slc, et_slc, bw_rev, tw_rev, et_rev, bw_call, tw_call, et_call, bw_callK, tw_callK, et_callK, bw_b1, tw_b1, et_b1, bw_mth, tw_mth, et_mth, bw_mut, tw_mut, et_mut, bw_isi, tw_isi, et_isi, bw_lc, tw_lc, et_lc, bw_sset, tw_sset, et_sset, et_var, List.getElem?_cons_zero, List.getElem?_cons_succ, List.set_cons_zero, List.set_cons_succ, List.length_cons, List.length_nil, Option.map_some, if_true, if_false, Bool.false_eq_true, Nat.zero_add, Nat.reduceAdd, Nat.reduceLT, Nat.reduceLeDiff, List.zip_cons_cons, List.zip_nil_left, List.zip_nil_right, List.foldl_cons, List.foldl_nil, Bool.not_true, Bool.not_false, decide_true, decide_false, hk, intB, fl_hit, missA, b_pow40, s_int (lgx (show i.natAbs ≤ MX by omega)), e]
  case bl p =>
    obtain ⟨x, w', e, hP, hw⟩ := x_pick (m := m) (D0 := fun _ => True) (ds := [.int (b2D p + 1), .int (b2D p - 1), .int (0 - b2D p), .int 0, .int 1, .int 2, .bl true, .str (if p then "True" else "False"), .non, .tup [.bl p], .int (10 ^ 40)]) (P := BP M (.bl p)) h (by omega) (by simp) (by simp) fun x hx => by
      have h10 : (10 : Nat) ≤ 10 ^ 40 := by decide
      have hN : ((10 : Int) ^ 40).natAbs = 10 ^ 40 := by decide
      have hst : lv (.str (if p then "True" else "False")) = true := by cases p <;> decide
      have hb : b2D p = 0 ∨ b2D p = 1 := by cases p <;> decide
      simp only [List.mem_cons, List.not_mem_nil, or_false] at hx
      rcases hx with rfl | rfl | rfl | rfl | rfl | rfl | rfl | rfl | rfl | rfl | rfl <;> refine ⟨?_, by simp [sz, szs], by simp [dh, dhs]⟩ <;> simp only [lw, lws, Bool.and_true, decide_eq_true_eq, hst] <;> omega
    refine ⟨x, w', ?_, hP, hw⟩
    simp only [exSs_cons, exSs_nil, exS_ret, exS_retN, exS_asg, exS_asgO, exS_asgT, exS_par2, exS_ex, exS_ifs, exS_for, for_nil, for_cons, fo_some, fr_nx, fr_rt, as_nm, as_tup, ev_var, ev_con, ev_bin, ev_cmp, ev_chain, ev_nt, ev_and, ev_or, ev_ife, ev_tup, ev_lst, ev_dnew, ev_sub, ev_slc, ev_rev, ev_call, ev_callK, ev_b1, ev_mut, ev_isi, evs_nil, evs_cons, evO_nil, evO_one, evT_and, evT_or, evT_nt, evI_val, evI_range1, evTs_nil, evTs_one, q_bind, q_bindS, q_of, q_at, q_rw, q_seq_nx, q_seq_rt, q_var, vd_dat, vd_own, q_rd, rdo_dat, rdo_own, q_brw_var, thV_some, twV_some, q_two_var, q_and, q_or, q_chain, q_callD, q_callKD, kiR_some, q_b1F, q_b1, q_isi, q_mut, q_ownK, oko_own, kindD, q_mutD, mdo_own, mdr_some, g_fn, g_ki, g_tru, g_cmp, g_bin, gg_get, g_slc, g_rev, g_it, g_isi_int, g_isi_bool, g_isi_str, g_isi_tuple, g_isi_list, g_bF_len, g_bF_repr, g_bF_max, g_bF_str, g_bF_int, g_bF_tuple, g_bF_all, g_bF_any, g_bF_list, g_b1_len, g_b1_repr, g_b1_max, g_b1_str, g_b1_int, g_b1_tuple, g_b1_all, g_mu_append, k_tbl, c_eqI, c_neI, c_ltI, c_gtI, c_geI, c_leI, c_eqL, c_neL, c_eqT, c_neT, c_isB, c_notB, c_eqS, ownD, asgL, t_bl, t_non, t_lst, t_tup, n_str, n_lst, n_tup, tu_lst, li_tup, li_lst, i_int, i1_int, it_lst, it_tup, rv_tup, at_tup, o_some, g_tupL, g_lstL, sl_tup, b_addI, b_subI, b_addB, b_subB, b_subIB, bw_con, tw_con, et_con, bw_glob, tw_glob, et_glob, bw_bin, tw_bin, et_bin, bw_neg, tw_neg, et_neg, bw_nt, tw_nt, bw_and, tw_and, bw_or, tw_or, bw_cmp, tw_cmp, et_cmp, bw_chain, tw_chain, et_chain, bw_ife, tw_ife, et_ife, bw_tup, tw_tup, et_tup, bw_lst, tw_lst, et_lst, bw_dnew, tw_dnew, et_dnew, bw_sub, tw_sub, et_sub, bw_slc, tw_slc, et_slc, bw_rev, tw_rev, et_rev, bw_call, tw_call, et_call, bw_callK, tw_callK, et_callK, bw_b1, tw_b1, et_b1, bw_mth, tw_mth, et_mth, bw_mut, tw_mut, et_mut, bw_isi, tw_isi, et_isi, bw_lc, tw_lc, et_lc, bw_sset, tw_sset, et_sset, et_var, List.getElem?_cons_zero, List.getElem?_cons_succ, List.set_cons_zero, List.set_cons_succ, List.length_cons, List.length_nil, Option.map_some, if_true, if_false, Bool.false_eq_true, Nat.zero_add, Nat.reduceAdd, Nat.reduceLT, Nat.reduceLeDiff, List.zip_cons_cons, List.zip_nil_left, List.zip_nil_right, List.foldl_cons, List.foldl_nil, Bool.not_true, Bool.not_false, decide_true, decide_false, hk, intB, fl_hit, missA, b_pow40, s_bl, e]
  all_goals
    obtain ⟨x, w', e, hP, hw⟩ := other rfl
    refine ⟨x, w', ?_, hP, hw⟩
    simp only [exSs_cons, exSs_nil, exS_ret, exS_retN, exS_asg, exS_asgO, exS_asgT, exS_par2, exS_ex, exS_ifs, exS_for, for_nil, for_cons, fo_some, fr_nx, fr_rt, as_nm, as_tup, ev_var, ev_con, ev_bin, ev_cmp, ev_chain, ev_nt, ev_and, ev_or, ev_ife, ev_tup, ev_lst, ev_dnew, ev_sub, ev_slc, ev_rev, ev_call, ev_callK, ev_b1, ev_mut, ev_isi, evs_nil, evs_cons, evO_nil, evO_one, evT_and, evT_or, evT_nt, evI_val, evI_range1, evTs_nil, evTs_one, q_bind, q_bindS, q_of, q_at, q_rw, q_seq_nx, q_seq_rt, q_var, vd_dat, vd_own, q_rd, rdo_dat, rdo_own, q_brw_var, thV_some, twV_some, q_two_var, q_and, q_or, q_chain, q_callD, q_callKD, kiR_some, q_b1F, q_b1, q_isi, q_mut, q_ownK, oko_own, kindD, q_mutD, mdo_own, mdr_some, g_fn, g_ki, g_tru, g_cmp, g_bin, gg_get, g_slc, g_rev, g_it, g_isi_int, g_isi_bool, g_isi_str, g_isi_tuple, g_isi_list, g_bF_len, g_bF_repr, g_bF_max, g_bF_str, g_bF_int, g_bF_tuple, g_bF_all, g_bF_any, g_bF_list, g_b1_len, g_b1_repr, g_b1_max, g_b1_str, g_b1_int, g_b1_tuple, g_b1_all, g_mu_append, k_tbl, c_eqI, c_neI, c_ltI, c_gtI, c_geI, c_leI, c_eqL, c_neL, c_eqT, c_neT, c_isB, c_notB, c_eqS, ownD, asgL, t_bl, t_non, t_lst, t_tup, n_str, n_lst, n_tup, tu_lst, li_tup, li_lst, i_int, i1_int, it_lst, it_tup, rv_tup, at_tup, o_some, g_tupL, g_lstL, sl_tup, b_addI, b_subI, b_addB, b_subB, b_subIB, bw_con, tw_con, et_con, bw_glob, tw_glob, et_glob, bw_bin, tw_bin, et_bin, bw_neg, tw_neg, et_neg, bw_nt, tw_nt, bw_and, tw_and, bw_or, tw_or, bw_cmp, tw_cmp, et_cmp, bw_chain, tw_chain, et_chain, bw_ife, tw_ife, et_ife, bw_tup, tw_tup, et_tup, bw_lst, tw_lst, et_lst, bw_dnew, tw_dnew, et_dnew, bw_sub, tw_sub, et_sub, bw_slc, tw_slc, et_slc, bw_rev, tw_rev, et_rev, bw_call, tw_call, et_call, bw_callK, tw_callK, et_callK, bw_b1, tw_b1, et_b1, bw_mth, tw_mth, et_mth, bw_mut, tw_mut, et_mut, bw_isi, tw_isi, et_isi, bw_lc, tw_lc, et_lc, bw_sset, tw_sset, et_sset, et_var, List.getElem?_cons_zero, List.getElem?_cons_succ, List.set_cons_zero, List.set_cons_succ, List.length_cons, List.length_nil, Option.map_some, if_true, if_false, Bool.false_eq_true, Nat.zero_add, Nat.reduceAdd, Nat.reduceLT, Nat.reduceLeDiff, List.zip_cons_cons, List.zip_nil_left, List.zip_nil_right, List.foldl_cons, List.foldl_nil, Bool.not_true, Bool.not_false, decide_true, decide_false, hk, intB, fl_hit, missA, e]
end DL.K17
set_option maxRecDepth 100000
set_option maxHeartbeats 4000000
set_option linter.all false
namespace DL.K17
open PySem PySem.Spec PyProof.Rows L2 DL
def F_bent (m : Int) : Nat → Fn
  | 0 => fun _ _ => .stuck
  | j + 1 => runB (stdG (fl [("_law_draw", F_draw m), ("_law_pick", F_pick m), ("_law_bent", F_bent m j)]) ki0) b_l_bent 3 5
theorem e3k : (3000 : Int) ≤ 10 ^ 40 := by decide
theorem cut_take1 (ds : List D) (n : Nat) : cutD ds none (some ((n : Int) + 1)) = ds.take (n + 1) := by
  rw [show ((n : Int) + 1) = ((n + 1 : Nat) : Int) by omega]
  exact cut_take ds (n + 1)
theorem cut_drop1 (ds : List D) (n : Nat) : cutD ds (some ((n : Int) + 1)) none = ds.drop (n + 1) := by
  rw [show ((n : Int) + 1) = ((n + 1 : Nat) : Int) by omega]
  exact cut_drop ds (n + 1)
theorem BP.tup {M : Nat} {xs ys : List D} (h : ∀ y ∈ ys, lw (M + 1) y = true) (hs : szs ys ≤ 2 * szs xs + 21) (hd : dhs ys ≤ dhs xs + 3) : BP M (.tup xs) (.tup ys) := by
  refine ⟨by rw [lw]; exact lws_iff.mpr h, ?_, ?_⟩
  · simp only [sz]; omega
  · simp only [dh]; omega
theorem szs_take (ds : List D) (n : Nat) : szs (ds.take n) ≤ szs ds := by
  have := szs_split ds n
  omega
theorem szs_drop (ds : List D) (n : Nat) : szs (ds.drop n) ≤ szs ds := by
  have := szs_split ds n
  omega
theorem isEmp {α : Type} {xs : List α} (h : xs ≠ []) : xs.isEmpty = false := by
  cases xs with
  | nil => exact absurd rfl h
  | cons a b => rfl
theorem d_sub1 (n : Nat) : (((n + 1 : Nat) : Int) - 1) = (n : Int) := by omega
/-- a row that is bent -/
theorem bent_then {m : Int} {M : Nat} {Fb : Fn} {xs : List D} {deep : Nat} {w : DW} {c B : Nat} {s3 s4 : Sl} (hM0 : 10 ^ 40 ≤ M) (hM : M + 1 ≤ MX) (h : WS c w) (hc : c + B + 4 < 800000) (hx : ∀ x ∈ xs, lw M x = true) (hne : xs ≠ []) (hs : szs xs ≤ 3000)
    (hb : ∀ x w, x ∈ xs → WS (c + 2) w → ∃ d' w', Fb [.deck, x, .int deep] w = .ok d' w' ∧ BP M x d' ∧ WS (c + 2 + B) w') :
    ∃ d' w', exSs (stdG (fl [("_law_draw", F_draw m), ("_law_pick", F_pick m), ("_law_bent", Fb)]) ki0) bentThen [.dat .deck, .dat (.tup xs), .dat (.int ((deep + 1 : Nat) : Int)), s3, s4] w = .rt d' w' ∧ BP M (.tup xs) d' ∧ WS (c + 3 + B) w' := by
  have hlen : 0 < xs.length := List.length_pos_iff.mpr hne
  have hl2 := szs_len xs
  have hlim : lim = 16777216 := rfl
  obtain ⟨v, w1, e1, a1, b1, k1⟩ := draw_eq (m := m) (many := xs.length) h (by omega) (by omega) (by have := e3k; omega)
  obtain ⟨n, rfl⟩ : ∃ n : Nat, v = n := ⟨v.toNat, by omega⟩
  obtain ⟨u, w2, e2, a2, b2, k2⟩ := draw_eq (m := m) (many := 11) k1 (by omega) (by omega) (by decide)
  obtain ⟨x, hat, hgx⟩ := at_nat (ds := xs) (v := n) a1 b1
  have hgx : xs[n]? = some x := by simpa using hgx
  obtain ⟨q1, q2, q3⟩ := sz_get hgx
  have hx1 : ∀ x ∈ xs, lw (M + 1) x = true := fun x h => lw_mono (Nat.le_succ M) x (hx x h)
  have mT : ∀ k, ∀ y ∈ xs.take k, lw (M + 1) y = true := fun k y hy => hx1 y (List.mem_of_mem_take hy)
  have mD : ∀ k, ∀ y ∈ xs.drop k, lw (M + 1) y = true := fun k y hy => hx1 y (List.mem_of_mem_drop hy)
  have sT := szs_take xs
  have sD := szs_drop xs
  have tT := dhs_take xs
  have tD := dhs_drop xs
  have lT : ∀ k, (xs.take k).length ≤ 3000 := fun k => by rw [List.length_take]; omega
  have lD : ∀ k, (xs.drop k).length ≤ 3000 := fun k => by rw [List.length_drop]; omega
  have eb : bentThen = thenOf b_l_bent := rfl
  rw [eb]
  unfold b_l_bent thenOf
  by_cases w0 : u = 0
  · subst w0
    refine ⟨.tup (xs.take n ++ xs.drop (n + 1)), w2, ?_, BP.tup (fun y hy => ?_) ?_ ?_, k2.mono (by omega)⟩
    · simp only [exSs_cons, exSs_nil, exS_ret, exS_retN, exS_asg, exS_asgO, exS_asgT, exS_par2, exS_ex, exS_ifs, exS_for, for_nil, for_cons, fo_some, fr_nx, fr_rt, as_nm, as_tup, ev_var, ev_con, ev_bin, ev_cmp, ev_chain, ev_nt, ev_and, ev_or, ev_ife, ev_tup, ev_lst, ev_dnew, ev_sub, ev_slc, ev_rev, ev_call, ev_callK, ev_b1, ev_mut, ev_isi, evs_nil, evs_cons, evO_nil, evO_one, evT_and, evT_or, evT_nt, evI_val, evI_range1, evTs_nil, evTs_one, q_bind, q_bindS, q_of, q_at, q_rw, q_seq_nx, q_seq_rt, q_var, vd_dat, vd_own, q_rd, rdo_dat, rdo_own, q_brw_var, thV_some, twV_some, q_two_var, q_and, q_or, q_chain, q_callD, q_callKD, kiR_some, q_b1F, q_b1, q_isi, q_mut, q_ownK, oko_own, kindD, q_mutD, mdo_own, mdr_some, g_fn, g_ki, g_tru, g_cmp, g_bin, gg_get, g_slc, g_rev, g_it, g_isi_int, g_isi_bool, g_isi_str, g_isi_tuple, g_isi_list, g_bF_len, g_bF_repr, g_bF_max, g_bF_str, g_bF_int, g_bF_tuple, g_bF_all, g_bF_any, g_bF_list, g_b1_len, g_b1_repr, g_b1_max, g_b1_str, g_b1_int, g_b1_tuple, g_b1_all, g_mu_append, k_tbl, c_eqI, c_neI, c_ltI, c_gtI, c_geI, c_leI, c_eqL, c_neL, c_eqT, c_neT, c_isB, c_notB, c_eqS, ownD, asgL, t_bl, t_non, t_lst, t_tup, n_str, n_lst, n_tup, tu_lst, li_tup, li_lst, i_int, i1_int, it_lst, it_tup, rv_tup, at_tup, o_some, g_tupL, g_lstL, sl_tup, b_addI, b_subI, b_addB, b_subB, b_subIB, bw_con, tw_con, et_con, bw_glob, tw_glob, et_glob, bw_bin, tw_bin, et_bin, bw_neg, tw_neg, et_neg, bw_nt, tw_nt, bw_and, tw_and, bw_or, tw_or, bw_cmp, tw_cmp, et_cmp, bw_chain, tw_chain, et_chain, bw_ife, tw_ife, et_ife, bw_tup, tw_tup, et_tup, bw_lst, tw_lst, et_lst, bw_dnew, tw_dnew, et_dnew, bw_sub, tw_sub, et_sub, bw_slc, tw_slc, et_slc, bw_rev, tw_rev, et_rev, bw_call, tw_call, et_call, bw_callK, tw_callK, et_callK, bw_b1, tw_b1, et_b1, bw_mth, tw_mth, et_mth, bw_mut, tw_mut, et_mut, bw_isi, tw_isi, et_isi, bw_lc, tw_lc, et_lc, bw_sset, tw_sset, et_sset, et_var, List.getElem?_cons_zero, List.getElem?_cons_succ, List.set_cons_zero, List.set_cons_succ, List.length_cons, List.length_nil, Option.map_some, if_true, if_false, Bool.false_eq_true, Nat.zero_add, Nat.reduceAdd, Nat.reduceLT, Nat.reduceLeDiff, List.zip_cons_cons, List.zip_nil_left, List.zip_nil_right, List.foldl_cons, List.foldl_nil, Bool.not_true, Bool.not_false, decide_true, decide_false, fl_hit, e1, e2, cut_take, cut_drop1, b_addT (show (xs.take n).length + (xs.drop (n + 1)).length ≤ lim by have := lT n; have := lD (n + 1); omega)]
    · rcases List.mem_append.mp hy with z | z
      · exact mT _ y z
      · exact mD _ y z
    · rw [szs_append]; have := szs_split xs n; have := sT n; have := sD (n + 1); omega
    · rw [dhs_append]; have := tT n; have := tD (n + 1); omega
  by_cases w1' : u = 1
  · subst w1'
    have d10 : decide ((1 : Int) = 0) = false := by decide
    refine ⟨.tup (xs.take (n + 1) ++ xs.drop n), w2, ?_, BP.tup (fun y hy => ?_) ?_ ?_, k2.mono (by omega)⟩
    · simp only [exSs_cons, exSs_nil, exS_ret, exS_retN, exS_asg, exS_asgO, exS_asgT, exS_par2, exS_ex, exS_ifs, exS_for, for_nil, for_cons, fo_some, fr_nx, fr_rt, as_nm, as_tup, ev_var, ev_con, ev_bin, ev_cmp, ev_chain, ev_nt, ev_and, ev_or, ev_ife, ev_tup, ev_lst, ev_dnew, ev_sub, ev_slc, ev_rev, ev_call, ev_callK, ev_b1, ev_mut, ev_isi, evs_nil, evs_cons, evO_nil, evO_one, evT_and, evT_or, evT_nt, evI_val, evI_range1, evTs_nil, evTs_one, q_bind, q_bindS, q_of, q_at, q_rw, q_seq_nx, q_seq_rt, q_var, vd_dat, vd_own, q_rd, rdo_dat, rdo_own, q_brw_var, thV_some, twV_some, q_two_var, q_and, q_or, q_chain, q_callD, q_callKD, kiR_some, q_b1F, q_b1, q_isi, q_mut, q_ownK, oko_own, kindD, q_mutD, mdo_own, mdr_some, g_fn, g_ki, g_tru, g_cmp, g_bin, gg_get, g_slc, g_rev, g_it, g_isi_int, g_isi_bool, g_isi_str, g_isi_tuple, g_isi_list, g_bF_len, g_bF_repr, g_bF_max, g_bF_str, g_bF_int, g_bF_tuple, g_bF_all, g_bF_any, g_bF_list, g_b1_len, g_b1_repr, g_b1_max, g_b1_str, g_b1_int, g_b1_tuple, g_b1_all, g_mu_append, k_tbl, c_eqI, c_neI, c_ltI, c_gtI, c_geI, c_leI, c_eqL, c_neL, c_eqT, c_neT, c_isB, c_notB, c_eqS, ownD, asgL, t_bl, t_non, t_lst, t_tup, n_str, n_lst, n_tup, tu_lst, li_tup, li_lst, i_int, i1_int, it_lst, it_tup, rv_tup, at_tup, o_some, g_tupL, g_lstL, sl_tup, b_addI, b_subI, b_addB, b_subB, b_subIB, bw_con, tw_con, et_con, bw_glob, tw_glob, et_glob, bw_bin, tw_bin, et_bin, bw_neg, tw_neg, et_neg, bw_nt, tw_nt, bw_and, tw_and, bw_or, tw_or, bw_cmp, tw_cmp, et_cmp, bw_chain, tw_chain, et_chain, bw_ife, tw_ife, et_ife, bw_tup, tw_tup, et_tup, bw_lst, tw_lst, et_lst, bw_dnew, tw_dnew, et_dnew, bw_sub, tw_sub, et_sub, bw_slc, tw_slc, et_slc, bw_rev, tw_rev, et_rev, bw_call, tw_call, et_call, bw_callK, tw_callK, et_callK, bw_b1, tw_b1, et_b1, bw_mth, tw_mth, et_mth, bw_mut, tw_mut, et_mut, bw_isi, tw_isi, et_isi, bw_lc, tw_lc, et_lc, bw_sset, tw_sset, et_sset, et_var, List.getElem?_cons_zero, List.getElem?_cons_succ, List.set_cons_zero, List.set_cons_succ, List.length_cons, List.length_nil, Option.map_some, if_true, if_false, Bool.false_eq_true, Nat.zero_add, Nat.reduceAdd, Nat.reduceLT, Nat.reduceLeDiff, List.zip_cons_cons, List.zip_nil_left, List.zip_nil_right, List.foldl_cons, List.foldl_nil, Bool.not_true, Bool.not_false, decide_true, decide_false, fl_hit, e1, e2, d10, cut_take1, cut_drop, b_addT (show (xs.take (n + 1)).length + (xs.drop n).length ≤ lim by have := lT (n + 1); have := lD n; omega)]
    · rcases List.mem_append.mp hy with z | z
      · exact mT _ y z
      · exact mD _ y z
    · rw [szs_append]; have := sT (n + 1); have := sD n; omega
    · rw [dhs_append]; have := tT (n + 1); have := tD n; omega
  by_cases w2' : u = 2
  · subst w2'
    have d20 : decide ((2 : Int) = 0) = false := by decide
    have d21 : decide ((2 : Int) = 1) = false := by decide
    obtain ⟨y, w', e, hP, hw⟩ := x_pick (m := m) (D0 := fun _ => True) (ds := [.lst xs, .tup xs.reverse, .tup (xs ++ xs), .tup (xs.take n), .tup [.tup xs]]) (P := BP M (.tup xs)) k2 (by omega) (by simp) (by simp) fun y hy => by
      simp only [List.mem_cons, List.not_mem_nil, or_false] at hy
      rcases hy with rfl | rfl | rfl | rfl | rfl
      · refine ⟨by rw [lw]; exact lws_iff.mpr hx1, by simp only [sz]; omega, by simp only [dh]; omega⟩
      · refine BP.tup (fun y hy => hx1 y (List.mem_reverse.mp hy)) ?_ ?_
        · rw [szs_rev]; omega
        · rw [dhs_rev]; omega
      · refine BP.tup (fun y hy => hx1 y ?_) ?_ ?_
        · rcases List.mem_append.mp hy with z | z <;> exact z
        · rw [szs_append]; omega
        · rw [dhs_append]; omega
      · refine BP.tup (mT n) ?_ ?_
        · have := sT n; omega
        · have := tT n; omega
      · refine BP.tup (fun y hy => ?_) ?_ ?_
        · rw [List.mem_singleton.mp hy, lw]; exact lws_iff.mpr hx1
        · simp only [szs, sz]; omega
        · simp only [dhs, dh]; omega
    refine ⟨y, w', ?_, hP, hw.mono (by omega)⟩
    simp only [exSs_cons, exSs_nil, exS_ret, exS_retN, exS_asg, exS_asgO, exS_asgT, exS_par2, exS_ex, exS_ifs, exS_for, for_nil, for_cons, fo_some, fr_nx, fr_rt, as_nm, as_tup, ev_var, ev_con, ev_bin, ev_cmp, ev_chain, ev_nt, ev_and, ev_or, ev_ife, ev_tup, ev_lst, ev_dnew, ev_sub, ev_slc, ev_rev, ev_call, ev_callK, ev_b1, ev_mut, ev_isi, evs_nil, evs_cons, evO_nil, evO_one, evT_and, evT_or, evT_nt, evI_val, evI_range1, evTs_nil, evTs_one, q_bind, q_bindS, q_of, q_at, q_rw, q_seq_nx, q_seq_rt, q_var, vd_dat, vd_own, q_rd, rdo_dat, rdo_own, q_brw_var, thV_some, twV_some, q_two_var, q_and, q_or, q_chain, q_callD, q_callKD, kiR_some, q_b1F, q_b1, q_isi, q_mut, q_ownK, oko_own, kindD, q_mutD, mdo_own, mdr_some, g_fn, g_ki, g_tru, g_cmp, g_bin, gg_get, g_slc, g_rev, g_it, g_isi_int, g_isi_bool, g_isi_str, g_isi_tuple, g_isi_list, g_bF_len, g_bF_repr, g_bF_max, g_bF_str, g_bF_int, g_bF_tuple, g_bF_all, g_bF_any, g_bF_list, g_b1_len, g_b1_repr, g_b1_max, g_b1_str, g_b1_int, g_b1_tuple, g_b1_all, g_mu_append, k_tbl, c_eqI, c_neI, c_ltI, c_gtI, c_geI, c_leI, c_eqL, c_neL, c_eqT, c_neT, c_isB, c_notB, c_eqS, ownD, asgL, t_bl, t_non, t_lst, t_tup, n_str, n_lst, n_tup, tu_lst, li_tup, li_lst, i_int, i1_int, it_lst, it_tup, rv_tup, at_tup, o_some, g_tupL, g_lstL, sl_tup, b_addI, b_subI, b_addB, b_subB, b_subIB, bw_con, tw_con, et_con, bw_glob, tw_glob, et_glob, bw_bin, tw_bin, et_bin, bw_neg, tw_neg, et_neg, bw_nt, tw_nt, bw_and, tw_and, bw_or, tw_or, bw_cmp, tw_cmp, et_cmp, bw_chain, tw_chain, et_chain, bw_ife, tw_ife, et_ife, bw_tup, tw_tup, et_tup, bw_lst, tw_lst, et_lst, bw_dnew, tw_dnew, et_dnew, bw_sub, tw_sub, et_sub, bw_slc, tw_slc, et_slc, bw_rev, tw_rev, et_rev, bw_call, tw_call, et_call, bw_callK, tw_callK, et_callK, bw_b1, tw_b1, et_b1, bw_mth, tw_mth, et_mth, bw_mut, tw_mut, et_mut, bw_isi, tw_isi, et_isi, bw_lc, tw_lc, et_lc, bw_sset, tw_sset, et_sset, et_var, List.getElem?_cons_zero, List.getElem?_cons_succ, List.set_cons_zero, List.set_cons_succ, List.length_cons, List.length_nil, Option.map_some, if_true, if_false, Bool.false_eq_true, Nat.zero_add, Nat.reduceAdd, Nat.reduceLT, Nat.reduceLeDiff, List.zip_cons_cons, List.zip_nil_left, List.zip_nil_right, List.foldl_cons, List.foldl_nil, Bool.not_true, Bool.not_false, decide_true, decide_false, fl_hit, missA, e1, e2, d20, d21, cut_take, b_addT (show xs.length + xs.length ≤ lim by omega), e]
  · obtain ⟨d', w', e, hP, hw⟩ := hb x w2 q3 k2
    have z1 : (xs.take n).length + ([d'] : List D).length ≤ lim := by have := lT n; simp; omega
    have z2 : (xs.take n ++ [d']).length + (xs.drop (n + 1)).length ≤ lim := by have := lT n; have := lD (n + 1); rw [List.length_append]; simp; omega
    refine ⟨.tup (xs.take n ++ [d'] ++ xs.drop (n + 1)), w', ?_, BP.tup (fun y hy => ?_) ?_ ?_, hw.mono (by omega)⟩
    · simp only [exSs_cons, exSs_nil, exS_ret, exS_retN, exS_asg, exS_asgO, exS_asgT, exS_par2, exS_ex, exS_ifs, exS_for, for_nil, for_cons, fo_some, fr_nx, fr_rt, as_nm, as_tup, ev_var, ev_con, ev_bin, ev_cmp, ev_chain, ev_nt, ev_and, ev_or, ev_ife, ev_tup, ev_lst, ev_dnew, ev_sub, ev_slc, ev_rev, ev_call, ev_callK, ev_b1, ev_mut, ev_isi, evs_nil, evs_cons, evO_nil, evO_one, evT_and, evT_or, evT_nt, evI_val, evI_range1, evTs_nil, evTs_one, q_bind, q_bindS, q_of, q_at, q_rw, q_seq_nx, q_seq_rt, q_var, vd_dat, vd_own, q_rd, rdo_dat, rdo_own, q_brw_var, thV_some, twV_some, q_two_var, q_and, q_or, q_chain, q_callD, q_callKD, kiR_some, q_b1F, q_b1, q_isi, q_mut, q_ownK, oko_own, kindD, q_mutD, mdo_own, mdr_some, g_fn, g_ki, g_tru, g_cmp, g_bin, gg_get, g_slc, g_rev, g_it, g_isi_int, g_isi_bool, g_isi_str, g_isi_tuple, g_isi_list, g_bF_len, g_bF_repr, g_bF_max, g_bF_str, g_bF_int, g_bF_tuple, g_bF_all, g_bF_any, g_bF_list, g_b1_len, g_b1_repr, g_b1_max, g_b1_str, g_b1_int, g_b1_tuple, g_b1_all, g_mu_append, k_tbl, c_eqI, c_neI, c_ltI, c_gtI, c_geI, c_leI, c_eqL, c_neL, c_eqT, c_neT, c_isB, c_notB, c_eqS, ownD, asgL, t_bl, t_non, t_lst, t_tup, n_str, n_lst, n_tup, tu_lst, li_tup, li_lst, i_int, i1_int, it_lst, it_tup, rv_tup, at_tup, o_some, g_tupL, g_lstL, sl_tup, b_addI, b_subI, b_addB, b_subB, b_subIB, bw_con, tw_con, et_con, bw_glob, tw_glob, et_glob, bw_bin, tw_bin, et_bin, bw_neg, tw_neg, et_neg, bw_nt, tw_nt, bw_and, tw_and, bw_or, tw_or, bw_cmp, tw_cmp, et_cmp, bw_chain, tw_chain, et_chain, bw_ife, tw_ife, et_ife, bw_tup, tw_tup, et_tup, bw_lst, tw_lst, et_lst, bw_dnew, tw_dnew, et_dnew, bw_sub, tw_sub, et_sub, bw_slc, tw_slc, et_slc, bw_rev, tw_rev, et_rev, bw_call, tw_call, et_call, bw_callK, tw_callK, et_callK, bw_b1, tw_b1, et_b1, bw_mth, tw_mth, et_mth, bw_mut, tw_mut, et_mut, bw_isi, tw_isi, et_isi, bw_lc, tw_lc, et_lc, bw_sset, tw_sset, et_sset, et_var, List.getElem?_cons_zero, List.getElem?_cons_succ, List.set_cons_zero, List.set_cons_succ, List.length_cons, List.length_nil, Option.map_some, if_true, if_false, Bool.false_eq_true, Nat.zero_add, Nat.reduceAdd, Nat.reduceLT, Nat.reduceLeDiff, List.zip_cons_cons, List.zip_nil_left, List.zip_nil_right, List.foldl_cons, List.foldl_nil, Bool.not_true, Bool.not_false, decide_true, decide_false, fl_hit, missD, missE, e1, e2, w0, w1', w2', hat, d_sub1, cut_take, cut_drop1, e, b_addT z1, b_addT z2]
    · rcases List.mem_append.mp hy with z | z
      · rcases List.mem_append.mp z with z | z
        · exact mT _ y z
        · rw [List.mem_singleton.mp z]; exact hP.1
      · exact mD _ y z
    · rw [szs_append, szs_append]
      have := hP.2.1
      simp only [szs]
      omega
    · rw [dhs_append, dhs_append]
      have := hP.2.2
      have := tT n
      have := tD (n + 1)
      simp only [dhs]
      omega
theorem bent_is : b_l_bent = .cons (.ifs (.and (.isi (.var "_law_it" 1) "tuple") (.and (.cmp .NotEq (.var "_law_it" 1) (.tup .nil)) (.and (.cmp .Gt (.var "_law_deep" 2) (.con (.int 0))) (.cmp .Gt (.call "_law_draw" (.cons (.var "_law_deck_here" 0) (.cons (.con (.int 7)) .nil))) (.con (.int 0)))))) bentThen .nil) bentTail := rfl
theorem bent_eq {m : Int} {M : Nat} (hM0 : 10 ^ 40 ≤ M) (hM : M + 1 ≤ MX) : ∀ (j deep : Nat) (d : D) (w : DW) (c : Nat), deep < j → lw M d = true → sz d ≤ 3000 → WS c w → c + 4 * j < 700000 → ∃ d' w', F_bent m j [.deck, d, .int deep] w = .ok d' w' ∧ BP M d d' ∧ WS (c + 4 * j) w'
  | 0, deep, _, _, _, h, _, _, _, _ => absurd h (Nat.not_lt_zero _)
  | j + 1, deep, d, w, c, hd, hl, hs, h, hc => by
    have hv := lw_lv (by omega) d hl
    have hk := k_tuple (lv_okT hv)
    have go : ∃ d' w', exSs (stdG (fl [("_law_draw", F_draw m), ("_law_pick", F_pick m), ("_law_bent", F_bent m j)]) ki0) b_l_bent [.dat .deck, .dat d, .dat (.int deep), .emp, .emp] w = .rt d' w' ∧ BP M d d' ∧ WS (c + 4 * (j + 1)) w' := by
      rw [bent_is]
      cases d <;> first | (exact absurd hl Bool.false_ne_true) | skip
      case tup xs =>
        rw [lw, lws_iff] at hl
        simp only [sz] at hs
        by_cases hne : xs = []
        · obtain ⟨d', w', e, hP, hw⟩ := leaf (m := m) (Fb := F_bent m j) (d := .tup xs) (deep := deep) (s3 := .emp) (s4 := .emp) hM0 hM h (by omega) (by rw [lw]; exact lws_iff.mpr hl)
          refine ⟨d', w', ?_, hP, hw.mono (by omega)⟩
          subst hne
          simp only [exSs_cons, exSs_nil, exS_ret, exS_retN, exS_asg, exS_asgO, exS_asgT, exS_par2, exS_ex, exS_ifs, exS_for, for_nil, for_cons, fo_some, fr_nx, fr_rt, as_nm, as_tup, ev_var, ev_con, ev_bin, ev_cmp, ev_chain, ev_nt, ev_and, ev_or, ev_ife, ev_tup, ev_lst, ev_dnew, ev_sub, ev_slc, ev_rev, ev_call, ev_callK, ev_b1, ev_mut, ev_isi, evs_nil, evs_cons, evO_nil, evO_one, evT_and, evT_or, evT_nt, evI_val, evI_range1, evTs_nil, evTs_one, q_bind, q_bindS, q_of, q_at, q_rw, q_seq_nx, q_seq_rt, q_var, vd_dat, vd_own, q_rd, rdo_dat, rdo_own, q_brw_var, thV_some, twV_some, q_two_var, q_and, q_or, q_chain, q_callD, q_callKD, kiR_some, q_b1F, q_b1, q_isi, q_mut, q_ownK, oko_own, kindD, q_mutD, mdo_own, mdr_some, g_fn, g_ki, g_tru, g_cmp, g_bin, gg_get, g_slc, g_rev, g_it, g_isi_int, g_isi_bool, g_isi_str, g_isi_tuple, g_isi_list, g_bF_len, g_bF_repr, g_bF_max, g_bF_str, g_bF_int, g_bF_tuple, g_bF_all, g_bF_any, g_bF_list, g_b1_len, g_b1_repr, g_b1_max, g_b1_str, g_b1_int, g_b1_tuple, g_b1_all, g_mu_append, k_tbl, c_eqI, c_neI, c_ltI, c_gtI, c_geI, c_leI, c_eqL, c_neL, c_eqT, c_neT, c_isB, c_notB, c_eqS, ownD, asgL, t_bl, t_non, t_lst, t_tup, n_str, n_lst, n_tup, tu_lst, li_tup, li_lst, i_int, i1_int, it_lst, it_tup, rv_tup, at_tup, o_some, g_tupL, g_lstL, sl_tup, b_addI, b_subI, b_addB, b_subB, b_subIB, bw_con, tw_con, et_con, bw_glob, tw_glob, et_glob, bw_bin, tw_bin, et_bin, bw_neg, tw_neg, et_neg, bw_nt, tw_nt, bw_and, tw_and, bw_or, tw_or, bw_cmp, tw_cmp, et_cmp, bw_chain, tw_chain, et_chain, bw_ife, tw_ife, et_ife, bw_tup, tw_tup, et_tup, bw_lst, tw_lst, et_lst, bw_dnew, tw_dnew, et_dnew, bw_sub, tw_sub, et_sub, bw_slc, tw_slc, et_slc, bw_rev, tw_rev, et_rev, bw_call, tw_call, et_call, bw_callK, tw_callK, et_callK, bw_b1, tw_b1, et_b1, bw_mth, tw_mth, et_mth, bw_mut, tw_mut, et_mut, bw_isi, tw_isi, et_isi, bw_lc, tw_lc, et_lc, bw_sset, tw_sset, et_sset, et_var, List.getElem?_cons_zero, List.getElem?_cons_succ, List.set_cons_zero, List.set_cons_succ, List.length_cons, List.length_nil, Option.map_some, if_true, if_false, Bool.false_eq_true, Nat.zero_add, Nat.reduceAdd, Nat.reduceLT, Nat.reduceLeDiff, List.zip_cons_cons, List.zip_nil_left, List.zip_nil_right, List.foldl_cons, List.foldl_nil, Bool.not_true, Bool.not_false, decide_true, decide_false, hk, tupB, List.isEmpty_nil, e]
        match deep, hd with
        | 0, hd =>
          obtain ⟨d', w', e, hP, hw⟩ := leaf (m := m) (Fb := F_bent m j) (d := .tup xs) (deep := 0) (s3 := .emp) (s4 := .emp) hM0 hM h (by omega) (by rw [lw]; exact lws_iff.mpr hl)
          refine ⟨d', w', ?_, hP, hw.mono (by omega)⟩
          have d0 : decide ((0 : Int) < ((0 : Nat) : Int)) = false := by decide
          simp only [exSs_cons, exSs_nil, exS_ret, exS_retN, exS_asg, exS_asgO, exS_asgT, exS_par2, exS_ex, exS_ifs, exS_for, for_nil, for_cons, fo_some, fr_nx, fr_rt, as_nm, as_tup, ev_var, ev_con, ev_bin, ev_cmp, ev_chain, ev_nt, ev_and, ev_or, ev_ife, ev_tup, ev_lst, ev_dnew, ev_sub, ev_slc, ev_rev, ev_call, ev_callK, ev_b1, ev_mut, ev_isi, evs_nil, evs_cons, evO_nil, evO_one, evT_and, evT_or, evT_nt, evI_val, evI_range1, evTs_nil, evTs_one, q_bind, q_bindS, q_of, q_at, q_rw, q_seq_nx, q_seq_rt, q_var, vd_dat, vd_own, q_rd, rdo_dat, rdo_own, q_brw_var, thV_some, twV_some, q_two_var, q_and, q_or, q_chain, q_callD, q_callKD, kiR_some, q_b1F, q_b1, q_isi, q_mut, q_ownK, oko_own, kindD, q_mutD, mdo_own, mdr_some, g_fn, g_ki, g_tru, g_cmp, g_bin, gg_get, g_slc, g_rev, g_it, g_isi_int, g_isi_bool, g_isi_str, g_isi_tuple, g_isi_list, g_bF_len, g_bF_repr, g_bF_max, g_bF_str, g_bF_int, g_bF_tuple, g_bF_all, g_bF_any, g_bF_list, g_b1_len, g_b1_repr, g_b1_max, g_b1_str, g_b1_int, g_b1_tuple, g_b1_all, g_mu_append, k_tbl, c_eqI, c_neI, c_ltI, c_gtI, c_geI, c_leI, c_eqL, c_neL, c_eqT, c_neT, c_isB, c_notB, c_eqS, ownD, asgL, t_bl, t_non, t_lst, t_tup, n_str, n_lst, n_tup, tu_lst, li_tup, li_lst, i_int, i1_int, it_lst, it_tup, rv_tup, at_tup, o_some, g_tupL, g_lstL, sl_tup, b_addI, b_subI, b_addB, b_subB, b_subIB, bw_con, tw_con, et_con, bw_glob, tw_glob, et_glob, bw_bin, tw_bin, et_bin, bw_neg, tw_neg, et_neg, bw_nt, tw_nt, bw_and, tw_and, bw_or, tw_or, bw_cmp, tw_cmp, et_cmp, bw_chain, tw_chain, et_chain, bw_ife, tw_ife, et_ife, bw_tup, tw_tup, et_tup, bw_lst, tw_lst, et_lst, bw_dnew, tw_dnew, et_dnew, bw_sub, tw_sub, et_sub, bw_slc, tw_slc, et_slc, bw_rev, tw_rev, et_rev, bw_call, tw_call, et_call, bw_callK, tw_callK, et_callK, bw_b1, tw_b1, et_b1, bw_mth, tw_mth, et_mth, bw_mut, tw_mut, et_mut, bw_isi, tw_isi, et_isi, bw_lc, tw_lc, et_lc, bw_sset, tw_sset, et_sset, et_var, List.getElem?_cons_zero, List.getElem?_cons_succ, List.set_cons_zero, List.set_cons_succ, List.length_cons, List.length_nil, Option.map_some, if_true, if_false, Bool.false_eq_true, Nat.zero_add, Nat.reduceAdd, Nat.reduceLT, Nat.reduceLeDiff, List.zip_cons_cons, List.zip_nil_left, List.zip_nil_right, List.foldl_cons, List.foldl_nil, Bool.not_true, Bool.not_false, decide_true, decide_false, hk, tupB, isEmp hne, d0, e]
        | deep + 1, hd =>
          have d0 : decide ((0 : Int) < ((deep + 1 : Nat) : Int)) = true := decide_eq_true (by omega)
          obtain ⟨v, w1, e1, a1, b1, k1⟩ := draw_eq (m := m) (many := 7) h (by omega) (by omega) (by decide)
          by_cases hv0 : 0 < v
          · obtain ⟨d', w', e, hP, hw⟩ := bent_then (m := m) (Fb := F_bent m j) (xs := xs) (deep := deep) (s3 := .emp) (s4 := .emp) (B := 4 * j) hM0 hM k1 (by omega) hl hne (by omega) fun x w hx hw => by
              have := sz_mem hx
              obtain ⟨d', w', e, hP, hw⟩ := bent_eq (m := m) hM0 hM j deep x w (c + 1 + 2) (by omega) (hl x hx) (by omega) hw (by omega)
              exact ⟨d', w', e, hP, hw⟩
            refine ⟨d', w', ?_, hP, hw.mono (by omega)⟩
            have dv : decide (0 < v) = true := decide_eq_true hv0
            simp only [exSs_cons, exSs_nil, exS_ret, exS_retN, exS_asg, exS_asgO, exS_asgT, exS_par2, exS_ex, exS_ifs, exS_for, for_nil, for_cons, fo_some, fr_nx, fr_rt, as_nm, as_tup, ev_var, ev_con, ev_bin, ev_cmp, ev_chain, ev_nt, ev_and, ev_or, ev_ife, ev_tup, ev_lst, ev_dnew, ev_sub, ev_slc, ev_rev, ev_call, ev_callK, ev_b1, ev_mut, ev_isi, evs_nil, evs_cons, evO_nil, evO_one, evT_and, evT_or, evT_nt, evI_val, evI_range1, evTs_nil, evTs_one, q_bind, q_bindS, q_of, q_at, q_rw, q_seq_nx, q_seq_rt, q_var, vd_dat, vd_own, q_rd, rdo_dat, rdo_own, q_brw_var, thV_some, twV_some, q_two_var, q_and, q_or, q_chain, q_callD, q_callKD, kiR_some, q_b1F, q_b1, q_isi, q_mut, q_ownK, oko_own, kindD, q_mutD, mdo_own, mdr_some, g_fn, g_ki, g_tru, g_cmp, g_bin, gg_get, g_slc, g_rev, g_it, g_isi_int, g_isi_bool, g_isi_str, g_isi_tuple, g_isi_list, g_bF_len, g_bF_repr, g_bF_max, g_bF_str, g_bF_int, g_bF_tuple, g_bF_all, g_bF_any, g_bF_list, g_b1_len, g_b1_repr, g_b1_max, g_b1_str, g_b1_int, g_b1_tuple, g_b1_all, g_mu_append, k_tbl, c_eqI, c_neI, c_ltI, c_gtI, c_geI, c_leI, c_eqL, c_neL, c_eqT, c_neT, c_isB, c_notB, c_eqS, ownD, asgL, t_bl, t_non, t_lst, t_tup, n_str, n_lst, n_tup, tu_lst, li_tup, li_lst, i_int, i1_int, it_lst, it_tup, rv_tup, at_tup, o_some, g_tupL, g_lstL, sl_tup, b_addI, b_subI, b_addB, b_subB, b_subIB, bw_con, tw_con, et_con, bw_glob, tw_glob, et_glob, bw_bin, tw_bin, et_bin, bw_neg, tw_neg, et_neg, bw_nt, tw_nt, bw_and, tw_and, bw_or, tw_or, bw_cmp, tw_cmp, et_cmp, bw_chain, tw_chain, et_chain, bw_ife, tw_ife, et_ife, bw_tup, tw_tup, et_tup, bw_lst, tw_lst, et_lst, bw_dnew, tw_dnew, et_dnew, bw_sub, tw_sub, et_sub, bw_slc, tw_slc, et_slc, bw_rev, tw_rev, et_rev, bw_call, tw_call, et_call, bw_callK, tw_callK, et_callK, bw_b1, tw_b1, et_b1, bw_mth, tw_mth, et_mth, bw_mut, tw_mut, et_mut, bw_isi, tw_isi, et_isi, bw_lc, tw_lc, et_lc, bw_sset, tw_sset, et_sset, et_var, List.getElem?_cons_zero, List.getElem?_cons_succ, List.set_cons_zero, List.set_cons_succ, List.length_cons, List.length_nil, Option.map_some, if_true, if_false, Bool.false_eq_true, Nat.zero_add, Nat.reduceAdd, Nat.reduceLT, Nat.reduceLeDiff, List.zip_cons_cons, List.zip_nil_left, List.zip_nil_right, List.foldl_cons, List.foldl_nil, Bool.not_true, Bool.not_false, decide_true, decide_false, hk, tupB, isEmp hne, d0, fl_hit, e1, dv, e]
          · obtain ⟨d', w', e, hP, hw⟩ := leaf (m := m) (Fb := F_bent m j) (d := .tup xs) (deep := deep + 1) (s3 := .emp) (s4 := .emp) hM0 hM k1 (by omega) (by rw [lw]; exact lws_iff.mpr hl)
            refine ⟨d', w', ?_, hP, hw.mono (by omega)⟩
            have dv : decide (0 < v) = false := decide_eq_false hv0
            simp only [exSs_cons, exSs_nil, exS_ret, exS_retN, exS_asg, exS_asgO, exS_asgT, exS_par2, exS_ex, exS_ifs, exS_for, for_nil, for_cons, fo_some, fr_nx, fr_rt, as_nm, as_tup, ev_var, ev_con, ev_bin, ev_cmp, ev_chain, ev_nt, ev_and, ev_or, ev_ife, ev_tup, ev_lst, ev_dnew, ev_sub, ev_slc, ev_rev, ev_call, ev_callK, ev_b1, ev_mut, ev_isi, evs_nil, evs_cons, evO_nil, evO_one, evT_and, evT_or, evT_nt, evI_val, evI_range1, evTs_nil, evTs_one, q_bind, q_bindS, q_of, q_at, q_rw, q_seq_nx, q_seq_rt, q_var, vd_dat, vd_own, q_rd, rdo_dat, rdo_own, q_brw_var, thV_some, twV_some, q_two_var, q_and, q_or, q_chain, q_callD, q_callKD, kiR_some, q_b1F, q_b1, q_isi, q_mut, q_ownK, oko_own, kindD, q_mutD, mdo_own, mdr_some, g_fn, g_ki, g_tru, g_cmp, g_bin, gg_get, g_slc, g_rev, g_it, g_isi_int, g_isi_bool, g_isi_str, g_isi_tuple, g_isi_list, g_bF_len, g_bF_repr, g_bF_max, g_bF_str, g_bF_int, g_bF_tuple, g_bF_all, g_bF_any, g_bF_list, g_b1_len, g_b1_repr, g_b1_max, g_b1_str, g_b1_int, g_b1_tuple, g_b1_all, g_mu_append, k_tbl, c_eqI, c_neI, c_ltI, c_gtI, c_geI, c_leI, c_eqL, c_neL, c_eqT, c_neT, c_isB, c_notB, c_eqS, ownD, asgL, t_bl, t_non, t_lst, t_tup, n_str, n_lst, n_tup, tu_lst, li_tup, li_lst, i_int, i1_int, it_lst, it_tup, rv_tup, at_tup, o_some, g_tupL, g_lstL, sl_tup, b_addI, b_subI, b_addB, b_subB, b_subIB, bw_con, tw_con, et_con, bw_glob, tw_glob, et_glob, bw_bin, tw_bin, et_bin, bw_neg, tw_neg, et_neg, bw_nt, tw_nt, bw_and, tw_and, bw_or, tw_or, bw_cmp, tw_cmp, et_cmp, bw_chain, tw_chain, et_chain, bw_ife, tw_ife, et_ife, bw_tup, tw_tup, et_tup, bw_lst, tw_lst, et_lst, bw_dnew, tw_dnew, et_dnew, bw_sub, tw_sub, et_sub, bw_slc, tw_slc, et_slc, bw_rev, tw_rev, et_rev, bw_call, tw_call, et_call, bw_callK, tw_callK, et_callK, bw_b1, tw_b1, et_b1, bw_mth, tw_mth, et_mth, bw_mut, tw_mut, et_mut, bw_isi, tw_isi, et_isi, bw_lc, tw_lc, et_lc, bw_sset, tw_sset, et_sset, et_var, List.getElem?_cons_zero, List.getElem?_cons_succ, List.set_cons_zero, List.set_cons_succ, List.length_cons, List.length_nil, Option.map_some, if_true, if_false, Bool.false_eq_true, Nat.zero_add, Nat.reduceAdd, Nat.reduceLT, Nat.reduceLeDiff, List.zip_cons_cons, List.zip_nil_left, List.zip_nil_right, List.foldl_cons, List.foldl_nil, Bool.not_true, Bool.not_false, decide_true, decide_false, hk, tupB, isEmp hne, d0, fl_hit, e1, dv, e]
      all_goals
        obtain ⟨d', w', e, hP, hw⟩ := leaf (m := m) (Fb := F_bent m j) (deep := deep) (s3 := .emp) (s4 := .emp) hM0 hM h (by omega) hl
        refine ⟨d', w', ?_, hP, hw.mono (by omega)⟩
        simp only [exSs_cons, exSs_nil, exS_ret, exS_retN, exS_asg, exS_asgO, exS_asgT, exS_par2, exS_ex, exS_ifs, exS_for, for_nil, for_cons, fo_some, fr_nx, fr_rt, as_nm, as_tup, ev_var, ev_con, ev_bin, ev_cmp, ev_chain, ev_nt, ev_and, ev_or, ev_ife, ev_tup, ev_lst, ev_dnew, ev_sub, ev_slc, ev_rev, ev_call, ev_callK, ev_b1, ev_mut, ev_isi, evs_nil, evs_cons, evO_nil, evO_one, evT_and, evT_or, evT_nt, evI_val, evI_range1, evTs_nil, evTs_one, q_bind, q_bindS, q_of, q_at, q_rw, q_seq_nx, q_seq_rt, q_var, vd_dat, vd_own, q_rd, rdo_dat, rdo_own, q_brw_var, thV_some, twV_some, q_two_var, q_and, q_or, q_chain, q_callD, q_callKD, kiR_some, q_b1F, q_b1, q_isi, q_mut, q_ownK, oko_own, kindD, q_mutD, mdo_own, mdr_some, g_fn, g_ki, g_tru, g_cmp, g_bin, gg_get, g_slc, g_rev, g_it, g_isi_int, g_isi_bool, g_isi_str, g_isi_tuple, g_isi_list, g_bF_len, g_bF_repr, g_bF_max, g_bF_str, g_bF_int, g_bF_tuple, g_bF_all, g_bF_any, g_bF_list, g_b1_len, g_b1_repr, g_b1_max, g_b1_str, g_b1_int, g_b1_tuple, g_b1_all, g_mu_append, k_tbl, c_eqI, c_neI, c_ltI, c_gtI, c_geI, c_leI, c_eqL, c_neL, c_eqT, c_neT, c_isB, c_notB, c_eqS, ownD, asgL, t_bl, t_non, t_lst, t_tup, n_str, n_lst, n_tup, tu_lst, li_tup, li_lst, i_int, i1_int, it_lst, it_tup, rv_tup, at_tup, o_some, g_tupL, g_lstL, sl_tup, b_addI, b_subI, b_addB, b_subB, b_subIB, bw_con, tw_con, et_con, bw_glob, tw_glob, et_glob, bw_bin, tw_bin, et_bin, bw_neg, tw_neg, et_neg, bw_nt, tw_nt, bw_and, tw_and, bw_or, tw_or, bw_cmp, tw_cmp, et_cmp, bw_chain, tw_chain, et_chain, bw_ife, tw_ife, et_ife, bw_tup, tw_tup, et_tup, bw_lst, tw_lst, et_lst, bw_dnew, tw_dnew, et_dnew, bw_sub, tw_sub, et_sub, bw_slc, tw_slc, et_slc, bw_rev, tw_rev, et_rev, bw_call, tw_call, et_call, bw_callK, tw_callK, et_callK, bw_b1, tw_b1, et_b1, bw_mth, tw_mth, et_mth, bw_mut, tw_mut, et_mut, bw_isi, tw_isi, et_isi, bw_lc, tw_lc, et_lc, bw_sset, tw_sset, et_sset, et_var, List.getElem?_cons_zero, List.getElem?_cons_succ, List.set_cons_zero, List.set_cons_succ, List.length_cons, List.length_nil, Option.map_some, if_true, if_false, Bool.false_eq_true, Nat.zero_add, Nat.reduceAdd, Nat.reduceLT, Nat.reduceLeDiff, List.zip_cons_cons, List.zip_nil_left, List.zip_nil_right, List.foldl_cons, List.foldl_nil, Bool.not_true, Bool.not_false, decide_true, decide_false, hk, tupB, e]
    obtain ⟨d', w', e, hP, hw⟩ := go
    refine ⟨d', w', ?_, hP, hw⟩
    rw [F_bent]
    exact q_run rfl e
end DL.K17
set_option maxRecDepth 100000
set_option maxHeartbeats 4000000
set_option linter.all false
namespace DL.K17
open PySem PySem.Spec PyProof.Rows L2 DL
/-! ### the law's body -/
def lawFns (m : Int) : List (Str × Fn) := [("_law_draw", F_draw m), ("_law_pick", F_pick m), ("_law_shade", F_mk m), ("_law_bent", F_bent m 6), ("_law_told_right", F_told)]
theorem f_draw {m : Int} : fl (lawFns m) "_law_draw" = some (F_draw m) := by rfl
theorem f_pick {m : Int} : fl (lawFns m) "_law_pick" = some (F_pick m) := by rfl
theorem f_mk {m : Int} : fl (lawFns m) "_law_shade" = some (F_mk m) := by rfl
theorem f_bent {m : Int} : fl (lawFns m) "_law_bent" = some (F_bent m 6) := by rfl
theorem f_told {m : Int} : fl (lawFns m) "_law_told_right" = some F_told := by rfl
def M0 : Nat := 10 ^ 40
theorem m0x : M0 + 2 ≤ MX := by decide
/-! what a made one holds -/
theorem cell_lw {base : Int} {d : D} (hb : base ≤ 10 ^ 40) (h : CellP base d) : lw M0 d = true ∧ sz d = 1 ∧ dh d = 1 := by
  obtain ⟨i, rfl, h1, h2⟩ := h
  have e : ((M0 : Nat) : Int) = 10 ^ 40 := by decide
  refine ⟨?_, by simp only [sz], by simp only [dh]⟩
  rw [lw, decide_eq_true_eq]
  omega
theorem szs_le {k : Nat} : ∀ {ds : List D}, (∀ d ∈ ds, sz d ≤ k) → szs ds ≤ k * ds.length
  | [], _ => by simp [szs]
  | d :: ds, h => by
    have h1 := h d List.mem_cons_self
    have h2 := szs_le (ds := ds) fun e he => h e (.tail _ he)
    rw [szs, List.length_cons, Nat.mul_succ]
    omega
theorem dhs_le {k : Nat} : ∀ {ds : List D}, (∀ d ∈ ds, dh d ≤ k) → dhs ds ≤ k
  | [], _ => by simp [dhs]
  | d :: ds, h => by
    have h1 := h d List.mem_cons_self
    have h2 := dhs_le (ds := ds) fun e he => h e (.tail _ he)
    rw [dhs]
    omega
theorem row_lw {base : Int} {a : Nat} {d : D} (hb : base ≤ 10 ^ 40) (ha : a ≤ 5) (h : RowP base a d) : lw M0 d = true ∧ sz d ≤ 6 ∧ dh d ≤ 2 := by
  obtain ⟨ns, rfl, h1, h2⟩ := h
  have s := szs_le (k := 1) (ds := ns) fun d hd => by rw [(cell_lw hb (h2 d hd)).2.1]; exact Nat.le_refl _
  have t := dhs_le (k := 1) (ds := ns) fun d hd => by rw [(cell_lw hb (h2 d hd)).2.2]; exact Nat.le_refl _
  refine ⟨by rw [lw]; exact lws_iff.mpr fun d hd => (cell_lw hb (h2 d hd)).1, ?_, ?_⟩
  · simp only [sz]; omega
  · simp only [dh]; omega
theorem tab_lw {base : Int} {a b : Nat} {d : D} (hb : base ≤ 10 ^ 40) (ha : a ≤ 5) (hb' : b ≤ 5) (h : TabP base a b d) : lw M0 d = true ∧ sz d ≤ 31 ∧ dh d ≤ 3 := by
  obtain ⟨ns, rfl, h1, h2⟩ := h
  have s := szs_le (k := 6) (ds := ns) fun d hd => (row_lw hb ha (h2 d hd)).2.1
  have t := dhs_le (k := 2) (ds := ns) fun d hd => (row_lw hb ha (h2 d hd)).2.2
  refine ⟨by rw [lw]; exact lws_iff.mpr fun d hd => (row_lw hb ha (h2 d hd)).1, ?_, ?_⟩
  · simp only [sz]; omega
  · simp only [dh]; omega
def Good (d : D) : Prop := lw (M0 + 2) d = true ∧ sz d ≤ 1000 ∧ dh d ≤ 20
theorem Good.told {d : D} (h : Good d) (s : Str) (w : DW) : F_told [.str s, d] w = .ok (.bl true) w :=
  told_eq s d w (lw_lv m0x d h.1) (by have := h.2.2; omega) (by have := h.2.1; omega)
theorem four_lw {x y z : Int} {ts : List D} (hx : x.natAbs ≤ M0) (hy : y.natAbs ≤ M0) (hz : z.natAbs ≤ M0) (h : lws M0 ts = true) (hs : szs ts ≤ 93) (hd : dhs ts ≤ 3) : lw M0 (.tup [.int x, .int y, .int z, .tup ts]) = true ∧ sz (.tup [.int x, .int y, .int z, .tup ts]) ≤ 98 ∧ dh (.tup [.int x, .int y, .int z, .tup ts]) ≤ 5 := by
  refine ⟨?_, ?_, ?_⟩
  · simp only [lw, lws, h, Bool.and_true, Bool.and_eq_true, decide_eq_true_eq]
    exact ⟨hx, hy, hz⟩
  · simp only [sz, szs]; omega
  · simp only [dh, dhs]; omega
theorem good4 {d : D} (h : lw M0 d = true ∧ sz d ≤ 98 ∧ dh d ≤ 5) : Good d := ⟨lw_mono (by omega) d h.1, by omega, by omega⟩
/-! greatest of cells -/
theorem ints_cells {base : Int} : ∀ {ds : List D}, (∀ d ∈ ds, CellP base d) → ∃ is, intsOf ds = some is ∧ is.length = ds.length ∧ ∀ i ∈ is, 0 ≤ i ∧ i < base
  | [], _ => ⟨[], rfl, rfl, by simp⟩
  | d :: ds, h => by
    obtain ⟨i, rfl, h1, h2⟩ := h d List.mem_cons_self
    obtain ⟨is, e, el, ei⟩ := ints_cells (ds := ds) fun e he => h e (.tail _ he)
    refine ⟨i :: is, ?_, by rw [List.length_cons, el, List.length_cons], fun j hj => ?_⟩
    · rw [intsOf, e]; rfl
    · rcases List.mem_cons.mp hj with z | z
      · rw [z]; exact ⟨h1, h2⟩
      · exact ei j z
theorem max_cells {base : Int} {ds : List D} (h : ∀ d ∈ ds, CellP base d) (hne : 0 < ds.length) : ∃ i, intsOf ds = some i ∧ ∃ j js, i = j :: js ∧ 0 ≤ js.foldl max j ∧ js.foldl max j < base := by
  obtain ⟨is, e, el, ei⟩ := ints_cells h
  match is, el, e, ei with
  | [], el, _, _ => simp at el; omega
  | j :: js, el, e, ei =>
    refine ⟨j :: js, e, j, js, rfl, ?_⟩
    have go : ∀ (js : List Int) (j : Int), (0 ≤ j ∧ j < base) → (∀ i ∈ js, 0 ≤ i ∧ i < base) → 0 ≤ js.foldl max j ∧ js.foldl max j < base := by
      intro js
      induction js with
      | nil => exact fun j h _ => h
      | cons a as ih => exact fun j hj ha => ih (max j a) (by have := ha a List.mem_cons_self; omega) fun i hi => ha i (.tail _ hi)
    exact go js j (ei j List.mem_cons_self) fun i hi => ei i (.tail _ hi)
theorem max_tup {base : Int} {ds : List D} (h : ∀ d ∈ ds, CellP base d) (hne : 0 < ds.length) : ∃ i, maxI (.tup ds) = some (.int i) ∧ 0 ≤ i ∧ i < base := by
  obtain ⟨is, e, j, js, rfl, h1, h2⟩ := max_cells h hne
  refine ⟨js.foldl max j, ?_, h1, h2⟩
  simp only [maxI, e]
theorem max_lst {base : Int} {ds : List D} (h : ∀ d ∈ ds, CellP base d) (hne : 0 < ds.length) : ∃ i, maxI (.lst ds) = some (.int i) ∧ 0 ≤ i ∧ i < base := by
  obtain ⟨is, e, j, js, rfl, h1, h2⟩ := max_cells h hne
  refine ⟨js.foldl max j, ?_, h1, h2⟩
  simp only [maxI, e]
/-! the bent ones -/
def bY : PYs → PY
  | .cons p _ => p
  | .nil => .never
def bodyOf : PY → PYs
  | .for_ _ _ b => b
  | _ => .nil
def goBody : PYs := bodyOf (bY (tailOf b_law))
def kBody : PYs := bodyOf (bY (tailOf (tailOf (tailOf goBody))))
theorem kBody_is : kBody = (.cons (.asg "_law_bent_here" 7 (.call "_law_bent" (.cons (.var "_law_deck_here" 1) (.cons (.var "_law_shade_here" 4) (.cons (.con (.int 5)) .nil))))) (.cons (.ex (.mut "_law_some" 5 "append" (.cons (.ife (.cmp .Eq (.call "_law_draw" (.cons (.var "_law_deck_here" 1) (.cons (.con (.int 4)) .nil))) (.con (.int 0))) (.call "_law_bent" (.cons (.var "_law_deck_here" 1) (.cons (.var "_law_bent_here" 7) (.cons (.con (.int 5)) .nil)))) (.var "_law_bent_here" 7)) .nil))) .nil)) := rfl
theorem k_loop {m : Int} {S0 s2 s3 s8 s9 s10 s11 s12 s13 s14 s15 : Sl} {sh : D} (hl : lw M0 sh = true ∧ sz sh ≤ 98 ∧ dh sh ≤ 5) : ∀ (ks ts : List D) (s6 s7 : Sl) (c : Nat) (w : DW), WS c w → c + 50 * ks.length < 600000 → ts.length + ks.length ≤ 1000 → (∀ t ∈ ts, Good t) →
    ∃ us s6' s7' w', forD (.nm "_law_k" 6) (exSs (stdG (fl (lawFns m)) ki0) kBody) ks [S0, .dat .deck, s2, s3, .dat sh, .own (.lst ts), s6, s7, s8, s9, s10, s11, s12, s13, s14, s15] w = .nx [S0, .dat .deck, s2, s3, .dat sh, .own (.lst us), s6', s7', s8, s9, s10, s11, s12, s13, s14, s15] w' ∧ us.length = ts.length + ks.length ∧ (∀ t ∈ us, Good t) ∧ WS (c + 50 * ks.length) w'
  | [], ts, s6, s7, c, w, h, _, _, ht => ⟨ts, s6, s7, w, by simp only [exSs_cons, exSs_nil, exS_ret, exS_retN, exS_asg, exS_asgO, exS_asgT, exS_par2, exS_ex, exS_ifs, exS_for, for_nil, for_cons, fo_some, fr_nx, fr_rt, as_nm, as_tup, ev_var, ev_con, ev_bin, ev_cmp, ev_chain, ev_nt, ev_and, ev_or, ev_ife, ev_tup, ev_lst, ev_dnew, ev_sub, ev_slc, ev_rev, ev_call, ev_callK, ev_b1, ev_mut, ev_isi, evs_nil, evs_cons, evO_nil, evO_one, evT_and, evT_or, evT_nt, evI_val, evI_range1, evTs_nil, evTs_one, q_bind, q_bindS, q_of, q_at, q_rw, q_seq_nx, q_seq_rt, q_var, vd_dat, vd_own, q_rd, rdo_dat, rdo_own, q_brw_var, thV_some, twV_some, q_two_var, q_and, q_or, q_chain, q_callD, q_callKD, kiR_some, q_b1F, q_b1, q_isi, q_mut, q_ownK, oko_own, kindD, q_mutD, mdo_own, mdr_some, g_fn, g_ki, g_tru, g_cmp, g_bin, gg_get, g_slc, g_rev, g_it, g_isi_int, g_isi_bool, g_isi_str, g_isi_tuple, g_isi_list, g_bF_len, g_bF_repr, g_bF_max, g_bF_str, g_bF_int, g_bF_tuple, g_bF_all, g_bF_any, g_bF_list, g_b1_len, g_b1_repr, g_b1_max, g_b1_str, g_b1_int, g_b1_tuple, g_b1_all, g_mu_append, k_tbl, c_eqI, c_neI, c_ltI, c_gtI, c_geI, c_leI, c_eqL, c_neL, c_eqT, c_neT, c_isB, c_notB, c_eqS, ownD, asgL, t_bl, t_non, t_lst, t_tup, n_str, n_lst, n_tup, tu_lst, li_tup, li_lst, i_int, i1_int, it_lst, it_tup, rv_tup, at_tup, o_some, g_tupL, g_lstL, sl_tup, b_addI, b_subI, b_addB, b_subB, b_subIB, bw_con, tw_con, et_con, bw_glob, tw_glob, et_glob, bw_bin, tw_bin, et_bin, bw_neg, tw_neg, et_neg, bw_nt, tw_nt, bw_and, tw_and, bw_or, tw_or, bw_cmp, tw_cmp, et_cmp, bw_chain, tw_chain, et_chain, bw_ife, tw_ife, et_ife, bw_tup, tw_tup, et_tup, bw_lst, tw_lst, et_lst, bw_dnew, tw_dnew, et_dnew, bw_sub, tw_sub, et_sub, bw_slc, tw_slc, et_slc, bw_rev, tw_rev, et_rev, bw_call, tw_call, et_call, bw_callK, tw_callK, et_callK, bw_b1, tw_b1, et_b1, bw_mth, tw_mth, et_mth, bw_mut, tw_mut, et_mut, bw_isi, tw_isi, et_isi, bw_lc, tw_lc, et_lc, bw_sset, tw_sset, et_sset, et_var, List.getElem?_cons_zero, List.getElem?_cons_succ, List.set_cons_zero, List.set_cons_succ, List.length_cons, List.length_nil, Option.map_some, if_true, if_false, Bool.false_eq_true, Nat.zero_add, Nat.reduceAdd, Nat.reduceLT, Nat.reduceLeDiff, List.zip_cons_cons, List.zip_nil_left, List.zip_nil_right, List.foldl_cons, List.foldl_nil, Bool.not_true, Bool.not_false, decide_true, decide_false], by simp, ht, h⟩
  | k :: ks, ts, s6, s7, c, w, h, hc, hn, ht => by
    rw [List.length_cons] at hc hn
    have hx : M0 + 2 ≤ MX := m0x
    obtain ⟨d1, w1, e1, p1, k1⟩ := bent_eq (m := m) (M := M0) (Nat.le_refl _) (by omega) 6 5 sh w c (by omega) hl.1 (by omega) h (by omega)
    have e1 : F_bent m 6 [.deck, sh, .int 5] w = .ok d1 w1 := e1
    have g1 : Good d1 := ⟨lw_mono (by omega) d1 p1.1, by have := p1.2.1; omega, by have := p1.2.2; omega⟩
    obtain ⟨v, w2, e2, a2, b2, k2⟩ := draw_eq (m := m) (many := 4) k1 (by omega) (by omega) (by decide)
    obtain ⟨d3, w3, e3, p3, k3⟩ := bent_eq (m := m) (M := M0 + 1) (by show M0 ≤ M0 + 1; omega) (by omega) 6 5 d1 w2 _ (by omega) p1.1 (by have := p1.2.1; omega) k2 (by omega)
    have e3 : F_bent m 6 [.deck, d1, .int 5] w2 = .ok d3 w3 := e3
    have g3 : Good d3 := ⟨p3.1, by have := p1.2.1; have := p3.2.1; omega, by have := p1.2.2; have := p3.2.2; omega⟩
    have hlim : lim = 16777216 := rfl
    by_cases hv : v = 0
    · obtain ⟨us, s6', s7', w', e, q1, q2, q3⟩ := k_loop (m := m) (S0 := S0) (s2 := s2) (s3 := s3) (s8 := s8) (s9 := s9) (s10 := s10) (s11 := s11) (s12 := s12) (s13 := s13) (s14 := s14) (s15 := s15) hl ks (ts ++ [d3]) (.dat k) (.dat d1) (c + 50) w3 (k3.mono (by omega)) (by omega) (by rw [List.length_append]; simp; omega) (fun x hx => by
        rcases List.mem_append.mp hx with z | z
        · exact ht x z
        · rw [List.mem_singleton.mp z]; exact g3)
      refine ⟨us, s6', s7', w', ?_, by rw [q1, List.length_append]; simp; omega, q2, q3.mono (by rw [List.length_cons]; omega)⟩
      rw [for_cons, as_nm, fo_some]
      simp only [List.set_cons_zero, List.set_cons_succ]
      rw [kBody_is] at e ⊢
      subst hv
      have hm : ∀ (es : En → DW → R (List D)) (x : Sl) w, mutGD (some (4, appendF)) 5 es [S0, .dat .deck, s2, s3, .dat sh, .own (.lst ts), .dat k, x, s8, s9, s10, s11, s12, s13, s14, s15] w = _ := fun es x w => q_app rfl
      simp only [exSs_cons, exSs_nil, exS_ret, exS_retN, exS_asg, exS_asgO, exS_asgT, exS_par2, exS_ex, exS_ifs, exS_for, for_nil, for_cons, fo_some, fr_nx, fr_rt, as_nm, as_tup, ev_var, ev_con, ev_bin, ev_cmp, ev_chain, ev_nt, ev_and, ev_or, ev_ife, ev_tup, ev_lst, ev_dnew, ev_sub, ev_slc, ev_rev, ev_call, ev_callK, ev_b1, ev_mut, ev_isi, evs_nil, evs_cons, evO_nil, evO_one, evT_and, evT_or, evT_nt, evI_val, evI_range1, evTs_nil, evTs_one, q_bind, q_bindS, q_of, q_at, q_rw, q_seq_nx, q_seq_rt, q_var, vd_dat, vd_own, q_rd, rdo_dat, rdo_own, q_brw_var, thV_some, twV_some, q_two_var, q_and, q_or, q_chain, q_callD, q_callKD, kiR_some, q_b1F, q_b1, q_isi, q_mut, q_ownK, oko_own, kindD, q_mutD, mdo_own, mdr_some, g_fn, g_ki, g_tru, g_cmp, g_bin, gg_get, g_slc, g_rev, g_it, g_isi_int, g_isi_bool, g_isi_str, g_isi_tuple, g_isi_list, g_bF_len, g_bF_repr, g_bF_max, g_bF_str, g_bF_int, g_bF_tuple, g_bF_all, g_bF_any, g_bF_list, g_b1_len, g_b1_repr, g_b1_max, g_b1_str, g_b1_int, g_b1_tuple, g_b1_all, g_mu_append, k_tbl, c_eqI, c_neI, c_ltI, c_gtI, c_geI, c_leI, c_eqL, c_neL, c_eqT, c_neT, c_isB, c_notB, c_eqS, ownD, asgL, t_bl, t_non, t_lst, t_tup, n_str, n_lst, n_tup, tu_lst, li_tup, li_lst, i_int, i1_int, it_lst, it_tup, rv_tup, at_tup, o_some, g_tupL, g_lstL, sl_tup, b_addI, b_subI, b_addB, b_subB, b_subIB, bw_con, tw_con, et_con, bw_glob, tw_glob, et_glob, bw_bin, tw_bin, et_bin, bw_neg, tw_neg, et_neg, bw_nt, tw_nt, bw_and, tw_and, bw_or, tw_or, bw_cmp, tw_cmp, et_cmp, bw_chain, tw_chain, et_chain, bw_ife, tw_ife, et_ife, bw_tup, tw_tup, et_tup, bw_lst, tw_lst, et_lst, bw_dnew, tw_dnew, et_dnew, bw_sub, tw_sub, et_sub, bw_slc, tw_slc, et_slc, bw_rev, tw_rev, et_rev, bw_call, tw_call, et_call, bw_callK, tw_callK, et_callK, bw_b1, tw_b1, et_b1, bw_mth, tw_mth, et_mth, bw_mut, tw_mut, et_mut, bw_isi, tw_isi, et_isi, bw_lc, tw_lc, et_lc, bw_sset, tw_sset, et_sset, et_var, List.getElem?_cons_zero, List.getElem?_cons_succ, List.set_cons_zero, List.set_cons_succ, List.length_cons, List.length_nil, Option.map_some, if_true, if_false, Bool.false_eq_true, Nat.zero_add, Nat.reduceAdd, Nat.reduceLT, Nat.reduceLeDiff, List.zip_cons_cons, List.zip_nil_left, List.zip_nil_right, List.foldl_cons, List.foldl_nil, Bool.not_true, Bool.not_false, decide_true, decide_false, hm, f_bent, f_draw, e1, e2, e3, q_append (show ts.length < lim by omega), e]
    · obtain ⟨us, s6', s7', w', e, q1, q2, q3⟩ := k_loop (m := m) (S0 := S0) (s2 := s2) (s3 := s3) (s8 := s8) (s9 := s9) (s10 := s10) (s11 := s11) (s12 := s12) (s13 := s13) (s14 := s14) (s15 := s15) hl ks (ts ++ [d1]) (.dat k) (.dat d1) (c + 50) w2 (k2.mono (by omega)) (by omega) (by rw [List.length_append]; simp; omega) (fun x hx => by
        rcases List.mem_append.mp hx with z | z
        · exact ht x z
        · rw [List.mem_singleton.mp z]; exact g1)
      refine ⟨us, s6', s7', w', ?_, by rw [q1, List.length_append]; simp; omega, q2, q3.mono (by rw [List.length_cons]; omega)⟩
      rw [for_cons, as_nm, fo_some]
      simp only [List.set_cons_zero, List.set_cons_succ]
      rw [kBody_is] at e ⊢
      have dv : decide (v = 0) = false := decide_eq_false hv
      have hm : ∀ (es : En → DW → R (List D)) (x : Sl) w, mutGD (some (4, appendF)) 5 es [S0, .dat .deck, s2, s3, .dat sh, .own (.lst ts), .dat k, x, s8, s9, s10, s11, s12, s13, s14, s15] w = _ := fun es x w => q_app rfl
      simp only [exSs_cons, exSs_nil, exS_ret, exS_retN, exS_asg, exS_asgO, exS_asgT, exS_par2, exS_ex, exS_ifs, exS_for, for_nil, for_cons, fo_some, fr_nx, fr_rt, as_nm, as_tup, ev_var, ev_con, ev_bin, ev_cmp, ev_chain, ev_nt, ev_and, ev_or, ev_ife, ev_tup, ev_lst, ev_dnew, ev_sub, ev_slc, ev_rev, ev_call, ev_callK, ev_b1, ev_mut, ev_isi, evs_nil, evs_cons, evO_nil, evO_one, evT_and, evT_or, evT_nt, evI_val, evI_range1, evTs_nil, evTs_one, q_bind, q_bindS, q_of, q_at, q_rw, q_seq_nx, q_seq_rt, q_var, vd_dat, vd_own, q_rd, rdo_dat, rdo_own, q_brw_var, thV_some, twV_some, q_two_var, q_and, q_or, q_chain, q_callD, q_callKD, kiR_some, q_b1F, q_b1, q_isi, q_mut, q_ownK, oko_own, kindD, q_mutD, mdo_own, mdr_some, g_fn, g_ki, g_tru, g_cmp, g_bin, gg_get, g_slc, g_rev, g_it, g_isi_int, g_isi_bool, g_isi_str, g_isi_tuple, g_isi_list, g_bF_len, g_bF_repr, g_bF_max, g_bF_str, g_bF_int, g_bF_tuple, g_bF_all, g_bF_any, g_bF_list, g_b1_len, g_b1_repr, g_b1_max, g_b1_str, g_b1_int, g_b1_tuple, g_b1_all, g_mu_append, k_tbl, c_eqI, c_neI, c_ltI, c_gtI, c_geI, c_leI, c_eqL, c_neL, c_eqT, c_neT, c_isB, c_notB, c_eqS, ownD, asgL, t_bl, t_non, t_lst, t_tup, n_str, n_lst, n_tup, tu_lst, li_tup, li_lst, i_int, i1_int, it_lst, it_tup, rv_tup, at_tup, o_some, g_tupL, g_lstL, sl_tup, b_addI, b_subI, b_addB, b_subB, b_subIB, bw_con, tw_con, et_con, bw_glob, tw_glob, et_glob, bw_bin, tw_bin, et_bin, bw_neg, tw_neg, et_neg, bw_nt, tw_nt, bw_and, tw_and, bw_or, tw_or, bw_cmp, tw_cmp, et_cmp, bw_chain, tw_chain, et_chain, bw_ife, tw_ife, et_ife, bw_tup, tw_tup, et_tup, bw_lst, tw_lst, et_lst, bw_dnew, tw_dnew, et_dnew, bw_sub, tw_sub, et_sub, bw_slc, tw_slc, et_slc, bw_rev, tw_rev, et_rev, bw_call, tw_call, et_call, bw_callK, tw_callK, et_callK, bw_b1, tw_b1, et_b1, bw_mth, tw_mth, et_mth, bw_mut, tw_mut, et_mut, bw_isi, tw_isi, et_isi, bw_lc, tw_lc, et_lc, bw_sset, tw_sset, et_sset, et_var, List.getElem?_cons_zero, List.getElem?_cons_succ, List.set_cons_zero, List.set_cons_succ, List.length_cons, List.length_nil, Option.map_some, if_true, if_false, Bool.false_eq_true, Nat.zero_add, Nat.reduceAdd, Nat.reduceLT, Nat.reduceLeDiff, List.zip_cons_cons, List.zip_nil_left, List.zip_nil_right, List.foldl_cons, List.foldl_nil, Bool.not_true, Bool.not_false, decide_true, decide_false, hm, f_bent, f_draw, e1, e2, dv, q_append (show ts.length < lim by omega), e]
/-! they are told -/
def itBody : PYs := bodyOf (bY (tailOf (tailOf (tailOf (tailOf (tailOf (tailOf (tailOf (tailOf goBody)))))))))
theorem itBody_is : itBody = (.cons (.for_ (.nm "_law_more" 14) (.val (.tup (.cons (.var "_law_signs" 3) (.cons (.con (.str "c")) (.cons (.con (.str "bk")) (.cons (.con (.str "cde")) .nil)))))) (.cons (.ifs (.nt (.call "_law_told_right" (.cons (.var "_law_more" 14) (.cons (.var "_law_it" 13) .nil)))) (.cons (.ret (.con (.bl false))) .nil) .nil) .nil)) .nil) := rfl
theorem it_loop {m : Int} {S0 s2 s4 s5 s6 s7 s8 s9 s10 s11 s12 s15 : Sl} {s : Str} {w : DW} : ∀ (ts : List D) (s13 s14 : Sl), (∀ t ∈ ts, Good t) → (s13 = .emp ∨ ∃ d, s13 = .dat d) →
    ∃ s13' s14', forD (.nm "_law_it" 13) (exSs (stdG (fl (lawFns m)) ki0) itBody) ts [S0, .dat .deck, s2, .dat (.str s), s4, s5, s6, s7, s8, s9, s10, s11, s12, s13, s14, s15] w = .nx [S0, .dat .deck, s2, .dat (.str s), s4, s5, s6, s7, s8, s9, s10, s11, s12, s13', s14', s15] w ∧ (s13' = .emp ∨ ∃ d, s13' = .dat d)
  | [], s13, s14, _, h => ⟨s13, s14, by simp only [exSs_cons, exSs_nil, exS_ret, exS_retN, exS_asg, exS_asgO, exS_asgT, exS_par2, exS_ex, exS_ifs, exS_for, for_nil, for_cons, fo_some, fr_nx, fr_rt, as_nm, as_tup, ev_var, ev_con, ev_bin, ev_cmp, ev_chain, ev_nt, ev_and, ev_or, ev_ife, ev_tup, ev_lst, ev_dnew, ev_sub, ev_slc, ev_rev, ev_call, ev_callK, ev_b1, ev_mut, ev_isi, evs_nil, evs_cons, evO_nil, evO_one, evT_and, evT_or, evT_nt, evI_val, evI_range1, evTs_nil, evTs_one, q_bind, q_bindS, q_of, q_at, q_rw, q_seq_nx, q_seq_rt, q_var, vd_dat, vd_own, q_rd, rdo_dat, rdo_own, q_brw_var, thV_some, twV_some, q_two_var, q_and, q_or, q_chain, q_callD, q_callKD, kiR_some, q_b1F, q_b1, q_isi, q_mut, q_ownK, oko_own, kindD, q_mutD, mdo_own, mdr_some, g_fn, g_ki, g_tru, g_cmp, g_bin, gg_get, g_slc, g_rev, g_it, g_isi_int, g_isi_bool, g_isi_str, g_isi_tuple, g_isi_list, g_bF_len, g_bF_repr, g_bF_max, g_bF_str, g_bF_int, g_bF_tuple, g_bF_all, g_bF_any, g_bF_list, g_b1_len, g_b1_repr, g_b1_max, g_b1_str, g_b1_int, g_b1_tuple, g_b1_all, g_mu_append, k_tbl, c_eqI, c_neI, c_ltI, c_gtI, c_geI, c_leI, c_eqL, c_neL, c_eqT, c_neT, c_isB, c_notB, c_eqS, ownD, asgL, t_bl, t_non, t_lst, t_tup, n_str, n_lst, n_tup, tu_lst, li_tup, li_lst, i_int, i1_int, it_lst, it_tup, rv_tup, at_tup, o_some, g_tupL, g_lstL, sl_tup, b_addI, b_subI, b_addB, b_subB, b_subIB, bw_con, tw_con, et_con, bw_glob, tw_glob, et_glob, bw_bin, tw_bin, et_bin, bw_neg, tw_neg, et_neg, bw_nt, tw_nt, bw_and, tw_and, bw_or, tw_or, bw_cmp, tw_cmp, et_cmp, bw_chain, tw_chain, et_chain, bw_ife, tw_ife, et_ife, bw_tup, tw_tup, et_tup, bw_lst, tw_lst, et_lst, bw_dnew, tw_dnew, et_dnew, bw_sub, tw_sub, et_sub, bw_slc, tw_slc, et_slc, bw_rev, tw_rev, et_rev, bw_call, tw_call, et_call, bw_callK, tw_callK, et_callK, bw_b1, tw_b1, et_b1, bw_mth, tw_mth, et_mth, bw_mut, tw_mut, et_mut, bw_isi, tw_isi, et_isi, bw_lc, tw_lc, et_lc, bw_sset, tw_sset, et_sset, et_var, List.getElem?_cons_zero, List.getElem?_cons_succ, List.set_cons_zero, List.set_cons_succ, List.length_cons, List.length_nil, Option.map_some, if_true, if_false, Bool.false_eq_true, Nat.zero_add, Nat.reduceAdd, Nat.reduceLT, Nat.reduceLeDiff, List.zip_cons_cons, List.zip_nil_left, List.zip_nil_right, List.foldl_cons, List.foldl_nil, Bool.not_true, Bool.not_false, decide_true, decide_false], h⟩
  | t :: ts, s13, s14, ht, h => by
    have g := ht t List.mem_cons_self
    obtain ⟨s13', s14', e, hs⟩ := it_loop (m := m) (S0 := S0) (s2 := s2) (s4 := s4) (s5 := s5) (s6 := s6) (s7 := s7) (s8 := s8) (s9 := s9) (s10 := s10) (s11 := s11) (s12 := s12) (s15 := s15) (s := s) (w := w) ts (.dat t) (.dat (.str "cde")) (fun x hx => ht x (.tail _ hx)) (.inr ⟨t, rfl⟩)
    refine ⟨s13', s14', ?_, hs⟩
    rw [for_cons, as_nm, fo_some]
    simp only [List.set_cons_zero, List.set_cons_succ]
    rw [itBody_is] at e ⊢
    simp only [exSs_cons, exSs_nil, exS_ret, exS_retN, exS_asg, exS_asgO, exS_asgT, exS_par2, exS_ex, exS_ifs, exS_for, for_nil, for_cons, fo_some, fr_nx, fr_rt, as_nm, as_tup, ev_var, ev_con, ev_bin, ev_cmp, ev_chain, ev_nt, ev_and, ev_or, ev_ife, ev_tup, ev_lst, ev_dnew, ev_sub, ev_slc, ev_rev, ev_call, ev_callK, ev_b1, ev_mut, ev_isi, evs_nil, evs_cons, evO_nil, evO_one, evT_and, evT_or, evT_nt, evI_val, evI_range1, evTs_nil, evTs_one, q_bind, q_bindS, q_of, q_at, q_rw, q_seq_nx, q_seq_rt, q_var, vd_dat, vd_own, q_rd, rdo_dat, rdo_own, q_brw_var, thV_some, twV_some, q_two_var, q_and, q_or, q_chain, q_callD, q_callKD, kiR_some, q_b1F, q_b1, q_isi, q_mut, q_ownK, oko_own, kindD, q_mutD, mdo_own, mdr_some, g_fn, g_ki, g_tru, g_cmp, g_bin, gg_get, g_slc, g_rev, g_it, g_isi_int, g_isi_bool, g_isi_str, g_isi_tuple, g_isi_list, g_bF_len, g_bF_repr, g_bF_max, g_bF_str, g_bF_int, g_bF_tuple, g_bF_all, g_bF_any, g_bF_list, g_b1_len, g_b1_repr, g_b1_max, g_b1_str, g_b1_int, g_b1_tuple, g_b1_all, g_mu_append, k_tbl, c_eqI, c_neI, c_ltI, c_gtI, c_geI, c_leI, c_eqL, c_neL, c_eqT, c_neT, c_isB, c_notB, c_eqS, ownD, asgL, t_bl, t_non, t_lst, t_tup, n_str, n_lst, n_tup, tu_lst, li_tup, li_lst, i_int, i1_int, it_lst, it_tup, rv_tup, at_tup, o_some, g_tupL, g_lstL, sl_tup, b_addI, b_subI, b_addB, b_subB, b_subIB, bw_con, tw_con, et_con, bw_glob, tw_glob, et_glob, bw_bin, tw_bin, et_bin, bw_neg, tw_neg, et_neg, bw_nt, tw_nt, bw_and, tw_and, bw_or, tw_or, bw_cmp, tw_cmp, et_cmp, bw_chain, tw_chain, et_chain, bw_ife, tw_ife, et_ife, bw_tup, tw_tup, et_tup, bw_lst, tw_lst, et_lst, bw_dnew, tw_dnew, et_dnew, bw_sub, tw_sub, et_sub, bw_slc, tw_slc, et_slc, bw_rev, tw_rev, et_rev, bw_call, tw_call, et_call, bw_callK, tw_callK, et_callK, bw_b1, tw_b1, et_b1, bw_mth, tw_mth, et_mth, bw_mut, tw_mut, et_mut, bw_isi, tw_isi, et_isi, bw_lc, tw_lc, et_lc, bw_sset, tw_sset, et_sset, et_var, List.getElem?_cons_zero, List.getElem?_cons_succ, List.set_cons_zero, List.set_cons_succ, List.length_cons, List.length_nil, Option.map_some, if_true, if_false, Bool.false_eq_true, Nat.zero_add, Nat.reduceAdd, Nat.reduceLT, Nat.reduceLeDiff, List.zip_cons_cons, List.zip_nil_left, List.zip_nil_right, List.foldl_cons, List.foldl_nil, Bool.not_true, Bool.not_false, decide_true, decide_false, f_told, g.told, e]
end DL.K17
set_option maxRecDepth 100000
set_option maxHeartbeats 4000000
set_option linter.all false
namespace DL.K17
open PySem PySem.Spec PyProof.Rows L2 DL
theorem b_rep {x : D} {n : Nat} (h1 : 1 ≤ n) (h2 : n ≤ 1000) : binX .Mult (.tup [x]) (.int (n : Nat)) = some (.tup (List.replicate n x)) := by
  show repD [x] (n : Nat) = _
  unfold repD
  rw [if_pos ⟨by simp, by omega, by omega, by simp⟩]
  have e : ((n : Nat) : Int).toNat = n := by omega
  rw [e, List.flatten_replicate_singleton]
theorem rep_good {x : D} {n : Nat} {a b c : Int} (ha : a.natAbs ≤ M0) (hb : b.natAbs ≤ M0) (hc : c.natAbs ≤ M0) (hn : n ≤ 3) (h : lw M0 x = true) (hs : sz x ≤ 3) (hd : dh x ≤ 3) : Good (.tup [.int a, .int b, .int c, .tup (List.replicate n x)]) := by
  have m : ∀ d ∈ List.replicate n x, d = x := fun d hd => List.eq_of_mem_replicate hd
  refine good4 (four_lw ha hb hc (lws_iff.mpr fun d hd => by rw [m d hd]; exact h) ?_ (dhs_le fun d hd' => by rw [m d hd']; exact hd))
  have := szs_le (k := 3) (ds := List.replicate n x) fun d hd => by rw [m d hd]; exact hs
  rw [List.length_replicate] at this
  omega
theorem sign_ok {x : D} (h : x ∈ ([.str "a", .str "ab", .str "pq", .str "xyz", .str "z"] : List D)) : ∃ s : Str, x = .str s ∧ 1 ≤ s.length ∧ s.length ≤ 3 := by
  simp only [List.mem_cons, List.not_mem_nil, or_false] at h
  rcases h with z | z | z | z | z <;> exact ⟨_, z, by decide, by decide⟩
theorem goBody_is : goBody = (.cons (.asg "_law_signs" 3 (.call "_law_pick" (.cons (.var "_law_deck_here" 1) (.cons (.lst (.cons (.con (.str "a")) (.cons (.con (.str "ab")) (.cons (.con (.str "pq")) (.cons (.con (.str "xyz")) (.cons (.con (.str "z")) .nil)))))) .nil)))) (.cons (.asg "_law_shade_here" 4 (.call "_law_shade" (.cons (.var "_law_deck_here" 1) (.cons (.var "_law_signs" 3) .nil)))) (.cons (.asgO "_law_some" 5 (.lst (.cons (.var "_law_shade_here" 4) .nil))) (.cons (.for_ (.nm "_law_k" 6) (.range1 (.con (.int 14))) kBody) (.cons (.asgT [("_law_base", 8), ("_law_wide", 9), ("_law_tall", 10), ("_law_tables_here", 11)] false (.var "_law_shade_here" 4)) (.cons (.asgO "_law_some" 5 (.bin .Add (.var "_law_some" 5) (.lst (.cons (.tup (.cons (.var "_law_base" 8) (.cons (.var "_law_tall" 10) (.cons (.var "_law_wide" 9) (.cons (.var "_law_tables_here" 11) .nil))))) (.cons (.tup (.cons (.b1 "max" (.lc (.b1 "max" (.var "_law_line" 12)) (.nm "_law_line" 12) (.val (.sub (.var "_law_tables_here" 11) (.con (.int 0)))) .nil [("_law_line", 12)])) (.cons (.var "_law_wide" 9) (.cons (.var "_law_tall" 10) (.cons (.var "_law_tables_here" 11) .nil))))) .nil))))) (.cons (.asgO "_law_some" 5 (.bin .Add (.var "_law_some" 5) (.lst (.cons (.tup (.cons (.con (.int 1)) (.cons (.con (.int 1)) (.cons (.con (.int 1)) (.cons (.bin .Mult (.tup (.cons (.tup (.cons (.tup (.cons (.con (.int 0)) .nil)) .nil)) .nil)) (.b1 "len" (.var "_law_signs" 3))) .nil))))) (.cons (.tup (.cons (.con (.int 2)) (.cons (.con (.int 1)) (.cons (.con (.int 1)) (.cons (.bin .Mult (.tup (.cons (.tup (.cons (.tup (.cons (.con (.int 1)) .nil)) .nil)) .nil)) (.b1 "len" (.var "_law_signs" 3))) .nil))))) .nil))))) (.cons (.ex (.mut "_law_some" 5 "append" (.cons (.tup (.cons (.con (.int 2)) (.cons (.con (.int 0)) (.cons (.con (.int 0)) (.cons (.bin .Mult (.tup (.cons (.tup .nil) .nil)) (.b1 "len" (.var "_law_signs" 3))) .nil))))) .nil))) (.cons (.for_ (.nm "_law_it" 13) (.val (.var "_law_some" 5)) itBody) .nil))))))))) := rfl
theorem mem_two {p : D → Prop} {ds : List D} {x y : D} (h : ∀ d ∈ ds, p d) (hx : p x) (hy : p y) : ∀ d ∈ ds ++ [x, y], p d := fun d hd => by
  rcases List.mem_append.mp hd with z | z
  · exact h d z
  · simp only [List.mem_cons, List.not_mem_nil, or_false] at z
    rcases z with rfl | rfl
    · exact hx
    · exact hy
theorem mem_one {p : D → Prop} {ds : List D} {x : D} (h : ∀ d ∈ ds, p d) (hx : p x) : ∀ d ∈ ds ++ [x], p d := fun d hd => by
  rcases List.mem_append.mp hd with z | z
  · exact h d z
  · rw [List.mem_singleton.mp z]; exact hx
theorem go_turn {m : Int} {S0 s2 s3 s4 s5 s6 s7 s8 s9 s10 s11 s13 s14 s15 : Sl} {c : Nat} {w : DW} (h : WS c w) (hc : c + 1000 < 500000) (h13 : s13 = .emp ∨ ∃ d, s13 = .dat d) :
    ∃ t3 t4 t5 t6 t7 t8 t9 t10 t11 t13 t14 w', exSs (stdG (fl (lawFns m)) ki0) goBody [S0, .dat .deck, s2, s3, s4, s5, s6, s7, s8, s9, s10, s11, .emp, s13, s14, s15] w = .nx [S0, .dat .deck, s2, t3, t4, t5, t6, t7, t8, t9, t10, t11, .emp, t13, t14, s15] w' ∧ (t13 = .emp ∨ ∃ d, t13 = .dat d) ∧ WS (c + 1000) w' := by
  have hlim : lim = 16777216 := rfl
  have eM : ((M0 : Nat) : Int) = 10 ^ 40 := by decide
  have e10 : 10 ≤ M0 := by decide
  obtain ⟨x, w1, e1, x1, k1⟩ := pick_eq (m := m) (ds := [.str "a", .str "ab", .str "pq", .str "xyz", .str "z"]) h (by omega) (by simp) (by simp)
  obtain ⟨s, rfl, l1, l3⟩ := sign_ok x1
  obtain ⟨base, a, b, ts, w2, e2, hb2, hb, ha, hb', hts, ht, k2⟩ := mk_eq (m := m) (s := s) k1 (by omega) l3
  have tl : ∀ t ∈ ts, lw M0 t = true ∧ sz t ≤ 31 ∧ dh t ≤ 3 := fun t h => tab_lw hb ha.2 hb'.2 (ht t h)
  have ts1 : lws M0 ts = true := lws_iff.mpr fun t h => (tl t h).1
  have ts2 : szs ts ≤ 93 := by
    have := szs_le (k := 31) (ds := ts) fun t h => (tl t h).2.1
    omega
  have ts3 : dhs ts ≤ 3 := dhs_le fun t h => (tl t h).2.2
  have mx : ∀ i : Int, 0 ≤ i → i ≤ 10 ^ 40 → i.natAbs ≤ M0 := fun i h1 h2 => by omega
  have sm : ∀ n : Nat, n ≤ 5 → ((n : Nat) : Int).natAbs ≤ M0 := fun n hn => by omega
  have hsh := four_lw (x := base) (y := a) (z := b) (ts := ts) (mx base (by omega) hb) (sm a ha.2) (sm b hb'.2) ts1 ts2 ts3
  obtain ⟨us, s6', s7', w3, e3, u1, u2, k3⟩ := k_loop (m := m) (S0 := S0) (s2 := s2) (s3 := .dat (.str s)) (s8 := s8) (s9 := s9) (s10 := s10) (s11 := s11) (s12 := .emp) (s13 := s13) (s14 := s14) (s15 := s15) hsh (intsD 0 ((14 : Nat) : Int)) [.tup [.int base, .int a, .int b, .tup ts]] s6 s7 _ w2 k2 (by rw [ints_len]; omega) (by rw [ints_len]; simp) (fun t ht => by rw [List.mem_singleton.mp ht]; exact good4 hsh)
  rw [ints_len] at u1 k3
  simp only [List.length_cons, List.length_nil] at u1
  -- the first table
  have hts0 : 0 < ts.length := by omega
  obtain ⟨t0, hat, hg0⟩ := at_nat (ds := ts) (v := 0) (by omega) (by omega)
  obtain ⟨rs, rfl, r1, r2⟩ := ht t0 (List.mem_of_getElem? hg0)
  obtain ⟨xs, w4, e4, x1, x2, rfl⟩ := lc_relN (tg := .nm "_law_line" 12) (own := [12]) (t := evTs (stdG (fl (lawFns m)) ki0) .nil) (f := ev (stdG (fl (lawFns m)) ki0) (.b1 "max" (.var "_law_line" 12)))
    (ρ := [S0, .dat .deck, s2, .dat (.str s), .dat (.tup [.int base, .int a, .int b, .tup ts]), .own (.lst us), s6', s7', .dat (.int base), .dat (.int a), .dat (.int b), .dat (.tup ts), .emp, s13, s14, s15]) rs.length (CellP base) (fun _ w => w = w3)
    (fun d => [S0, .dat .deck, s2, .dat (.str s), .dat (.tup [.int base, .int a, .int b, .tup ts]), .own (.lst us), s6', s7', .dat (.int base), .dat (.int a), .dat (.int b), .dat (.tup ts), .dat d, s13, s14, s15]) rfl (ds := rs) (acc := []) (n := 0) (w := w3) (fun d _ => rfl) (fun d hd n w hn hw => by
      obtain ⟨ns, rfl, n1, n2⟩ := r2 d hd
      obtain ⟨i, ei, i1, i2⟩ := max_tup n2 (by omega)
      subst hw
      exact ⟨by simp only [exSs_cons, exSs_nil, exS_ret, exS_retN, exS_asg, exS_asgO, exS_asgT, exS_par2, exS_ex, exS_ifs, exS_for, for_nil, for_cons, fo_some, fr_nx, fr_rt, as_nm, as_tup, ev_var, ev_con, ev_bin, ev_cmp, ev_chain, ev_nt, ev_and, ev_or, ev_ife, ev_tup, ev_lst, ev_dnew, ev_sub, ev_slc, ev_rev, ev_call, ev_callK, ev_b1, ev_mut, ev_isi, evs_nil, evs_cons, evO_nil, evO_one, evT_and, evT_or, evT_nt, evI_val, evI_range1, evTs_nil, evTs_one, q_bind, q_bindS, q_of, q_at, q_rw, q_seq_nx, q_seq_rt, q_var, vd_dat, vd_own, q_rd, rdo_dat, rdo_own, q_brw_var, thV_some, twV_some, q_two_var, q_and, q_or, q_chain, q_callD, q_callKD, kiR_some, q_b1F, q_b1, q_isi, q_mut, q_ownK, oko_own, kindD, q_mutD, mdo_own, mdr_some, g_fn, g_ki, g_tru, g_cmp, g_bin, gg_get, g_slc, g_rev, g_it, g_isi_int, g_isi_bool, g_isi_str, g_isi_tuple, g_isi_list, g_bF_len, g_bF_repr, g_bF_max, g_bF_str, g_bF_int, g_bF_tuple, g_bF_all, g_bF_any, g_bF_list, g_b1_len, g_b1_repr, g_b1_max, g_b1_str, g_b1_int, g_b1_tuple, g_b1_all, g_mu_append, k_tbl, c_eqI, c_neI, c_ltI, c_gtI, c_geI, c_leI, c_eqL, c_neL, c_eqT, c_neT, c_isB, c_notB, c_eqS, ownD, asgL, t_bl, t_non, t_lst, t_tup, n_str, n_lst, n_tup, tu_lst, li_tup, li_lst, i_int, i1_int, it_lst, it_tup, rv_tup, at_tup, o_some, g_tupL, g_lstL, sl_tup, b_addI, b_subI, b_addB, b_subB, b_subIB, bw_con, tw_con, et_con, bw_glob, tw_glob, et_glob, bw_bin, tw_bin, et_bin, bw_neg, tw_neg, et_neg, bw_nt, tw_nt, bw_and, tw_and, bw_or, tw_or, bw_cmp, tw_cmp, et_cmp, bw_chain, tw_chain, et_chain, bw_ife, tw_ife, et_ife, bw_tup, tw_tup, et_tup, bw_lst, tw_lst, et_lst, bw_dnew, tw_dnew, et_dnew, bw_sub, tw_sub, et_sub, bw_slc, tw_slc, et_slc, bw_rev, tw_rev, et_rev, bw_call, tw_call, et_call, bw_callK, tw_callK, et_callK, bw_b1, tw_b1, et_b1, bw_mth, tw_mth, et_mth, bw_mut, tw_mut, et_mut, bw_isi, tw_isi, et_isi, bw_lc, tw_lc, et_lc, bw_sset, tw_sset, et_sset, et_var, List.getElem?_cons_zero, List.getElem?_cons_succ, List.set_cons_zero, List.set_cons_succ, List.length_cons, List.length_nil, Option.map_some, if_true, if_false, Bool.false_eq_true, Nat.zero_add, Nat.reduceAdd, Nat.reduceLT, Nat.reduceLeDiff, List.zip_cons_cons, List.zip_nil_left, List.zip_nil_right, List.foldl_cons, List.foldl_nil, Bool.not_true, Bool.not_false, decide_true, decide_false], .int i, w, by simp only [exSs_cons, exSs_nil, exS_ret, exS_retN, exS_asg, exS_asgO, exS_asgT, exS_par2, exS_ex, exS_ifs, exS_for, for_nil, for_cons, fo_some, fr_nx, fr_rt, as_nm, as_tup, ev_var, ev_con, ev_bin, ev_cmp, ev_chain, ev_nt, ev_and, ev_or, ev_ife, ev_tup, ev_lst, ev_dnew, ev_sub, ev_slc, ev_rev, ev_call, ev_callK, ev_b1, ev_mut, ev_isi, evs_nil, evs_cons, evO_nil, evO_one, evT_and, evT_or, evT_nt, evI_val, evI_range1, evTs_nil, evTs_one, q_bind, q_bindS, q_of, q_at, q_rw, q_seq_nx, q_seq_rt, q_var, vd_dat, vd_own, q_rd, rdo_dat, rdo_own, q_brw_var, thV_some, twV_some, q_two_var, q_and, q_or, q_chain, q_callD, q_callKD, kiR_some, q_b1F, q_b1, q_isi, q_mut, q_ownK, oko_own, kindD, q_mutD, mdo_own, mdr_some, g_fn, g_ki, g_tru, g_cmp, g_bin, gg_get, g_slc, g_rev, g_it, g_isi_int, g_isi_bool, g_isi_str, g_isi_tuple, g_isi_list, g_bF_len, g_bF_repr, g_bF_max, g_bF_str, g_bF_int, g_bF_tuple, g_bF_all, g_bF_any, g_bF_list, g_b1_len, g_b1_repr, g_b1_max, g_b1_str, g_b1_int, g_b1_tuple, g_b1_all, g_mu_append, k_tbl, c_eqI, c_neI, c_ltI, c_gtI, c_geI, c_leI, c_eqL, c_neL, c_eqT, c_neT, c_isB, c_notB, c_eqS, ownD, asgL, t_bl, t_non, t_lst, t_tup, n_str, n_lst, n_tup, tu_lst, li_tup, li_lst, i_int, i1_int, it_lst, it_tup, rv_tup, at_tup, o_some, g_tupL, g_lstL, sl_tup, b_addI, b_subI, b_addB, b_subB, b_subIB, bw_con, tw_con, et_con, bw_glob, tw_glob, et_glob, bw_bin, tw_bin, et_bin, bw_neg, tw_neg, et_neg, bw_nt, tw_nt, bw_and, tw_and, bw_or, tw_or, bw_cmp, tw_cmp, et_cmp, bw_chain, tw_chain, et_chain, bw_ife, tw_ife, et_ife, bw_tup, tw_tup, et_tup, bw_lst, tw_lst, et_lst, bw_dnew, tw_dnew, et_dnew, bw_sub, tw_sub, et_sub, bw_slc, tw_slc, et_slc, bw_rev, tw_rev, et_rev, bw_call, tw_call, et_call, bw_callK, tw_callK, et_callK, bw_b1, tw_b1, et_b1, bw_mth, tw_mth, et_mth, bw_mut, tw_mut, et_mut, bw_isi, tw_isi, et_isi, bw_lc, tw_lc, et_lc, bw_sset, tw_sset, et_sset, et_var, List.getElem?_cons_zero, List.getElem?_cons_succ, List.set_cons_zero, List.set_cons_succ, List.length_cons, List.length_nil, Option.map_some, if_true, if_false, Bool.false_eq_true, Nat.zero_add, Nat.reduceAdd, Nat.reduceLT, Nat.reduceLeDiff, List.zip_cons_cons, List.zip_nil_left, List.zip_nil_right, List.foldl_cons, List.foldl_nil, Bool.not_true, Bool.not_false, decide_true, decide_false, ei], ⟨i, rfl, i1, i2⟩, rfl⟩) (fun d _ => rfl) (by simp; omega) (by omega) rfl
  rw [List.nil_append] at e4
  obtain ⟨i, ei, i1, i2⟩ := max_lst x2 (by omega)
  -- all of them
  have gA := mem_two u2 (good4 (four_lw (x := base) (y := b) (z := a) (ts := ts) (mx base (by omega) hb) (sm b hb'.2) (sm a ha.2) ts1 ts2 ts3)) (good4 (four_lw (x := i) (y := a) (z := b) (ts := ts) (mx i i1 (by omega)) (sm a ha.2) (sm b hb'.2) ts1 ts2 ts3))
  have gB := mem_two gA (rep_good (x := .tup [.tup [.int 0]]) (n := s.length) (a := 1) (b := 1) (c := 1) (by omega) (by omega) (by omega) l3 (by simp only [lw, lws]; rfl) (by simp [sz, szs]) (by simp [dh, dhs])) (rep_good (x := .tup [.tup [.int 1]]) (n := s.length) (a := 2) (b := 1) (c := 1) (by omega) (by omega) (by omega) l3 (by simp only [lw, lws]; decide) (by simp [sz, szs]) (by simp [dh, dhs]))
  have gC := mem_one gB (rep_good (x := .tup []) (n := s.length) (a := 2) (b := 0) (c := 0) (by omega) (by omega) (by omega) l3 (by simp only [lw, lws]) (by simp [sz, szs]) (by simp [dh, dhs]))
  have z1 : us.length + ([D.tup [.int base, .int b, .int a, .tup ts], .tup [.int i, .int a, .int b, .tup ts]] : List D).length ≤ lim := by simp; omega
  have z2 : (us ++ ([D.tup [.int base, .int b, .int a, .tup ts], .tup [.int i, .int a, .int b, .tup ts]] : List D)).length + ([D.tup [.int 1, .int 1, .int 1, .tup (List.replicate s.length (.tup [.tup [.int 0]]))], .tup [.int 2, .int 1, .int 1, .tup (List.replicate s.length (.tup [.tup [.int 1]]))]] : List D).length ≤ lim := by simp; omega
  have z3 : (us ++ ([D.tup [.int base, .int b, .int a, .tup ts], .tup [.int i, .int a, .int b, .tup ts]] : List D) ++ ([D.tup [.int 1, .int 1, .int 1, .tup (List.replicate s.length (.tup [.tup [.int 0]]))], .tup [.int 2, .int 1, .int 1, .tup (List.replicate s.length (.tup [.tup [.int 1]]))]] : List D)).length < lim := by simp; omega
  obtain ⟨t13, t14, e5, h5⟩ := it_loop (m := m) (S0 := S0) (s2 := s2) (s4 := .dat (.tup [.int base, .int a, .int b, .tup ts])) (s5 := .dat (.lst (us ++ ([D.tup [.int base, .int b, .int a, .tup ts], .tup [.int i, .int a, .int b, .tup ts]] : List D) ++ ([D.tup [.int 1, .int 1, .int 1, .tup (List.replicate s.length (.tup [.tup [.int 0]]))], .tup [.int 2, .int 1, .int 1, .tup (List.replicate s.length (.tup [.tup [.int 1]]))]] : List D) ++ ([D.tup [.int 2, .int 0, .int 0, .tup (List.replicate s.length (.tup []))]] : List D)))) (s6 := s6') (s7 := s7') (s8 := .dat (.int base)) (s9 := .dat (.int a)) (s10 := .dat (.int b)) (s11 := .dat (.tup ts)) (s12 := .emp) (s15 := s15) (s := s) (w := w4) _ s13 s14 gC h13
  refine ⟨.dat (.str s), .dat (.tup [.int base, .int a, .int b, .tup ts]), .dat (.lst (us ++ ([D.tup [.int base, .int b, .int a, .tup ts], .tup [.int i, .int a, .int b, .tup ts]] : List D) ++ ([D.tup [.int 1, .int 1, .int 1, .tup (List.replicate s.length (.tup [.tup [.int 0]]))], .tup [.int 2, .int 1, .int 1, .tup (List.replicate s.length (.tup [.tup [.int 1]]))]] : List D) ++ ([D.tup [.int 2, .int 0, .int 0, .tup (List.replicate s.length (.tup []))]] : List D))), s6', s7', .dat (.int base), .dat (.int a), .dat (.int b), .dat (.tup ts), t13, t14, w4, ?_, h5, k3.mono (by omega)⟩
  rw [goBody_is]
  have hrep : ∀ x : D, binX .Mult (.tup [x]) (.int s.length) = _ := fun x => b_rep l1 (by omega)
  have hr : ∀ ρ w, evI (stdG (fl (lawFns m)) ki0) (.range1 (.con (.int 14))) ρ w = .ok (intsD 0 ((14 : Nat) : Int)) ρ w := fun ρ w => evI_rngC (n := 14) (by omega)
  have hm : ∀ (ds : List D) (es : En → DW → R (List D)) w, mutGD (some (4, appendF)) 5 es [S0, .dat .deck, s2, .dat (.str s), .dat (.tup [.int base, .int a, .int b, .tup ts]), .own (.lst ds), s6', s7', .dat (.int base), .dat (.int a), .dat (.int b), .dat (.tup ts), .emp, s13, s14, s15] w = _ := fun ds es w => q_app rfl
  simp only [ev_b1, g_bF_max, g_b1_max] at e4
  simp only [exSs_cons, exSs_nil, exS_ret, exS_retN, exS_asg, exS_asgO, exS_asgT, exS_par2, exS_ex, exS_ifs, exS_for, for_nil, for_cons, fo_some, fr_nx, fr_rt, as_nm, as_tup, ev_var, ev_con, ev_bin, ev_cmp, ev_chain, ev_nt, ev_and, ev_or, ev_ife, ev_tup, ev_lst, ev_dnew, ev_sub, ev_slc, ev_rev, ev_call, ev_callK, ev_b1, ev_mut, ev_isi, evs_nil, evs_cons, evO_nil, evO_one, evT_and, evT_or, evT_nt, evI_val, evTs_nil, evTs_one, q_bind, q_bindS, q_of, q_at, q_rw, q_seq_nx, q_seq_rt, q_var, vd_dat, vd_own, q_rd, rdo_dat, rdo_own, q_brw_var, thV_some, twV_some, q_two_var, q_and, q_or, q_chain, q_callD, q_callKD, kiR_some, q_b1F, q_b1, q_isi, q_mut, q_ownK, oko_own, kindD, q_mutD, mdo_own, mdr_some, g_fn, g_ki, g_tru, g_cmp, g_bin, gg_get, g_slc, g_rev, g_it, g_isi_int, g_isi_bool, g_isi_str, g_isi_tuple, g_isi_list, g_bF_len, g_bF_repr, g_bF_max, g_bF_str, g_bF_int, g_bF_tuple, g_bF_all, g_bF_any, g_bF_list, g_b1_len, g_b1_repr, g_b1_max, g_b1_str, g_b1_int, g_b1_tuple, g_b1_all, g_mu_append, k_tbl, c_eqI, c_neI, c_ltI, c_gtI, c_geI, c_leI, c_eqL, c_neL, c_eqT, c_neT, c_isB, c_notB, c_eqS, ownD, asgL, t_bl, t_non, t_lst, t_tup, n_str, n_lst, n_tup, tu_lst, li_tup, li_lst, i_int, i1_int, it_lst, it_tup, rv_tup, at_tup, o_some, g_tupL, g_lstL, sl_tup, b_addI, b_subI, b_addB, b_subB, b_subIB, bw_con, tw_con, et_con, bw_glob, tw_glob, et_glob, bw_bin, tw_bin, et_bin, bw_neg, tw_neg, et_neg, bw_nt, tw_nt, bw_and, tw_and, bw_or, tw_or, bw_cmp, tw_cmp, et_cmp, bw_chain, tw_chain, et_chain, bw_ife, tw_ife, et_ife, bw_tup, tw_tup, et_tup, bw_lst, tw_lst, et_lst, bw_dnew, tw_dnew, et_dnew, bw_sub, tw_sub, et_sub, bw_slc, tw_slc, et_slc, bw_rev, tw_rev, et_rev, bw_call, tw_call, et_call, bw_callK, tw_callK, et_callK, bw_b1, tw_b1, et_b1, bw_mth, tw_mth, et_mth, bw_mut, tw_mut, et_mut, bw_isi, tw_isi, et_isi, bw_lc, tw_lc, et_lc, bw_sset, tw_sset, et_sset, et_var, List.getElem?_cons_zero, List.getElem?_cons_succ, List.set_cons_zero, List.set_cons_succ, List.length_cons, List.length_nil, Option.map_some, if_true, if_false, Bool.false_eq_true, Nat.zero_add, Nat.reduceAdd, Nat.reduceLT, Nat.reduceLeDiff, List.zip_cons_cons, List.zip_nil_left, List.zip_nil_right, List.foldl_cons, List.foldl_nil, Bool.not_true, Bool.not_false, decide_true, decide_false, f_pick, f_mk, e1, e2, hr, e3, ev_lc, List.map_cons, List.map_nil, hat, e4, ei, hrep, b_addL z1, b_addL z2, q_append z3, hm, e5]
end DL.K17
set_option maxRecDepth 100000
set_option maxHeartbeats 4000000
set_option linter.all false
namespace DL.K17
open PySem PySem.Spec PyProof.Rows L2 DL
theorem go_loop {m : Int} {S0 s15 : Sl} : ∀ (gs : List D) (s2 s3 s4 s5 s6 s7 s8 s9 s10 s11 s13 s14 : Sl) (c : Nat) (w : DW), WS c w → c + 1000 * gs.length < 500000 → (s13 = .emp ∨ ∃ d, s13 = .dat d) →
    ∃ t2 t3 t4 t5 t6 t7 t8 t9 t10 t11 t13 t14 w', forD (.nm "_law_go" 2) (exSs (stdG (fl (lawFns m)) ki0) goBody) gs [S0, .dat .deck, s2, s3, s4, s5, s6, s7, s8, s9, s10, s11, .emp, s13, s14, s15] w = .nx [S0, .dat .deck, t2, t3, t4, t5, t6, t7, t8, t9, t10, t11, .emp, t13, t14, s15] w' ∧ (t13 = .emp ∨ ∃ d, t13 = .dat d)
  | [], s2, s3, s4, s5, s6, s7, s8, s9, s10, s11, s13, s14, c, w, _, _, h => ⟨s2, s3, s4, s5, s6, s7, s8, s9, s10, s11, s13, s14, w, for_nil, h⟩
  | g :: gs, s2, s3, s4, s5, s6, s7, s8, s9, s10, s11, s13, s14, c, w, h, hc, h13 => by
    rw [List.length_cons] at hc
    obtain ⟨t3, t4, t5, t6, t7, t8, t9, t10, t11, t13, t14, w1, e, k13, k⟩ := go_turn (m := m) (S0 := S0) (s2 := .dat g) (s3 := s3) (s4 := s4) (s5 := s5) (s6 := s6) (s7 := s7) (s8 := s8) (s9 := s9) (s10 := s10) (s11 := s11) (s13 := s13) (s14 := s14) (s15 := s15) h (by omega) h13
    obtain ⟨u2, u3, u4, u5, u6, u7, u8, u9, u10, u11, u13, u14, w', e', q⟩ := go_loop (m := m) (S0 := S0) (s15 := s15) gs (.dat g) t3 t4 t5 t6 t7 t8 t9 t10 t11 t13 t14 (c + 1000) w1 k (by omega) k13
    refine ⟨u2, u3, u4, u5, u6, u7, u8, u9, u10, u11, u13, u14, w', ?_, q⟩
    rw [for_cons, as_nm, fo_some]
    simp only [List.set_cons_zero, List.set_cons_succ]
    rw [e, fr_nx]
    exact e'
def oddL : List D := [.non, .int 0, .str "", .tup [], .lst [], .dK [] [], .str "colouring", .tup [.int 2, .int 1, .int 1], .tup [.int 2, .int 1, .int 1, .tup []], .lst [.int 2, .int 1, .int 1, .tup [.tup [.tup [.int 0]]]]]
def oddX : D := .tup [.bl true, .int 1, .int 1, .tup [.tup [.tup [.int 0]]]]
def goodB (d : D) : Bool := lw 3 d && decide (sz d ≤ 1000) && decide (dh d ≤ 20)
theorem goodB_ok {d : D} (h : goodB d = true) : Good d := by
  unfold goodB at h
  simp only [Bool.and_eq_true, decide_eq_true_eq] at h
  exact ⟨lw_mono (by show 3 ≤ M0 + 2; decide) d h.1.1, h.1.2, h.2⟩
theorem odd_all : (oddL ++ [oddX]).all goodB = true := by kernel_rfl
theorem filt_false {α : Type} : ∀ l : List α, l.filter (fun _ => false) = []
  | [] => rfl
  | a :: l => by rw [List.filter_cons]; simp
def lawTail : PYs := tailOf b_law
theorem lawTail_is : lawTail = (.cons (.for_ (.nm "_law_go" 2) (.range1 (.con (.int 4))) goBody) (.cons (.asgO "_law_odd" 15 (.lst (.cons (.con .non) (.cons (.con (.int 0)) (.cons (.con (.str "")) (.cons (.tup .nil) (.cons (.lst .nil) (.cons (.dnew false) (.cons (.con (.str "colouring")) (.cons (.tup (.cons (.con (.int 2)) (.cons (.con (.int 1)) (.cons (.con (.int 1)) .nil)))) (.cons (.tup (.cons (.con (.int 2)) (.cons (.con (.int 1)) (.cons (.con (.int 1)) (.cons (.tup .nil) .nil))))) (.cons (.lst (.cons (.con (.int 2)) (.cons (.con (.int 1)) (.cons (.con (.int 1)) (.cons (.tup (.cons (.tup (.cons (.tup (.cons (.con (.int 0)) .nil)) .nil)) .nil)) .nil))))) .nil)))))))))))) (.cons (.ex (.mut "_law_odd" 15 "append" (.cons (.tup (.cons (.con (.bl true)) (.cons (.con (.int 1)) (.cons (.con (.int 1)) (.cons (.tup (.cons (.tup (.cons (.tup (.cons (.con (.int 0)) .nil)) .nil)) .nil)) .nil))))) .nil))) (.cons (.ret (.cmp .Eq (.lc (.var "_law_it" 13) (.nm "_law_it" 13) (.val (.var "_law_odd" 15)) (.cons (.nt (.call "_law_told_right" (.cons (.con (.str "a")) (.cons (.var "_law_it" 13) .nil)))) .nil) [("_law_it", 13)]) (.lst .nil))) .nil)))) := rfl
theorem law_eq {m : Int} {S0 : Sl} {w : DW} (h : WS 0 w) : ∃ w', exSs (stdG (fl (lawFns m)) ki0) lawTail [S0, .dat .deck, .emp, .emp, .emp, .emp, .emp, .emp, .emp, .emp, .emp, .emp, .emp, .emp, .emp, .emp] w = .rt (.bl true) w' := by
  obtain ⟨t2, t3, t4, t5, t6, t7, t8, t9, t10, t11, t13, t14, w', e, h13⟩ := go_loop (m := m) (S0 := S0) (s15 := .emp) (intsD 0 ((4 : Nat) : Int)) .emp .emp .emp .emp .emp .emp .emp .emp .emp .emp .emp .emp 0 w h (by rw [ints_len]; omega) (.inl rfl)
  refine ⟨w', ?_⟩
  have hr : ∀ ρ w, evI (stdG (fl (lawFns m)) ki0) (.range1 (.con (.int 4))) ρ w = .ok (intsD 0 ((4 : Nat) : Int)) ρ w := fun ρ w => evI_rngC (n := 4) (by omega)
  have hlim : lim = 16777216 := rfl
  have hm : ∀ (ds : List D) (es : En → DW → R (List D)) w, mutGD (some (4, appendF)) 15 es [S0, .dat .deck, t2, t3, t4, t5, t6, t7, t8, t9, t10, t11, .emp, t13, t14, .own (.lst ds)] w = _ := fun ds es w => q_app rfl
  have hlc : lcD (.nm "_law_it" 13) [13] (evTs (stdG (fl (lawFns m)) ki0) (.cons (.nt (.call "_law_told_right" (.cons (.con (.str "a")) (.cons (.var "_law_it" 13) .nil)))) .nil)) (ev (stdG (fl (lawFns m)) ki0) (.var "_law_it" 13)) (oddL ++ [oddX]) [] [S0, .dat .deck, t2, t3, t4, t5, t6, t7, t8, t9, t10, t11, .emp, t13, t14, .dat (.lst (oddL ++ [oddX]))] w'
      = .ok (([] : List D) ++ ((oddL ++ [oddX]).filter fun _ => false).map fun d => d) [S0, .dat .deck, t2, t3, t4, t5, t6, t7, t8, t9, t10, t11, .emp, t13, t14, .dat (.lst (oddL ++ [oddX]))] w' := by
    refine lc_pure (fun _ => false) (fun d => d) (fun d => [S0, .dat .deck, t2, t3, t4, t5, t6, t7, t8, t9, t10, t11, .emp, .dat d, t14, .dat (.lst (oddL ++ [oddX]))]) ?_ (fun d _ => rfl) (fun d hd => ?_) (fun d _ h => absurd h Bool.false_ne_true) (fun d _ => ?_) ?_
    · rcases h13 with rfl | ⟨d, rfl⟩ <;> rfl
    · have g := goodB_ok (List.all_eq_true.mp odd_all d hd)
      simp only [exSs_cons, exSs_nil, exS_ret, exS_retN, exS_asg, exS_asgO, exS_asgT, exS_par2, exS_ex, exS_ifs, exS_for, for_nil, for_cons, fo_some, fr_nx, fr_rt, as_nm, as_tup, ev_var, ev_con, ev_bin, ev_cmp, ev_chain, ev_nt, ev_and, ev_or, ev_ife, ev_tup, ev_lst, ev_dnew, ev_sub, ev_slc, ev_rev, ev_call, ev_callK, ev_b1, ev_mut, ev_isi, evs_nil, evs_cons, evO_nil, evO_one, evT_and, evT_or, evT_nt, evI_val, evTs_nil, evTs_one, q_bind, q_bindS, q_of, q_at, q_rw, q_seq_nx, q_seq_rt, q_var, vd_dat, vd_own, q_rd, rdo_dat, rdo_own, q_brw_var, thV_some, twV_some, q_two_var, q_and, q_or, q_chain, q_callD, q_callKD, kiR_some, q_b1F, q_b1, q_isi, q_mut, q_ownK, oko_own, kindD, q_mutD, mdo_own, mdr_some, g_fn, g_ki, g_tru, g_cmp, g_bin, gg_get, g_slc, g_rev, g_it, g_isi_int, g_isi_bool, g_isi_str, g_isi_tuple, g_isi_list, g_bF_len, g_bF_repr, g_bF_max, g_bF_str, g_bF_int, g_bF_tuple, g_bF_all, g_bF_any, g_bF_list, g_b1_len, g_b1_repr, g_b1_max, g_b1_str, g_b1_int, g_b1_tuple, g_b1_all, g_mu_append, k_tbl, c_eqI, c_neI, c_ltI, c_gtI, c_geI, c_leI, c_eqL, c_neL, c_eqT, c_neT, c_isB, c_notB, c_eqS, ownD, asgL, t_bl, t_non, t_lst, t_tup, n_str, n_lst, n_tup, tu_lst, li_tup, li_lst, i_int, i1_int, it_lst, it_tup, rv_tup, at_tup, o_some, g_tupL, g_lstL, sl_tup, b_addI, b_subI, b_addB, b_subB, b_subIB, bw_con, tw_con, et_con, bw_glob, tw_glob, et_glob, bw_bin, tw_bin, et_bin, bw_neg, tw_neg, et_neg, bw_nt, tw_nt, bw_and, tw_and, bw_or, tw_or, bw_cmp, tw_cmp, et_cmp, bw_chain, tw_chain, et_chain, bw_ife, tw_ife, et_ife, bw_tup, tw_tup, et_tup, bw_lst, tw_lst, et_lst, bw_dnew, tw_dnew, et_dnew, bw_sub, tw_sub, et_sub, bw_slc, tw_slc, et_slc, bw_rev, tw_rev, et_rev, bw_call, tw_call, et_call, bw_callK, tw_callK, et_callK, bw_b1, tw_b1, et_b1, bw_mth, tw_mth, et_mth, bw_mut, tw_mut, et_mut, bw_isi, tw_isi, et_isi, bw_lc, tw_lc, et_lc, bw_sset, tw_sset, et_sset, et_var, List.getElem?_cons_zero, List.getElem?_cons_succ, List.set_cons_zero, List.set_cons_succ, List.length_cons, List.length_nil, Option.map_some, if_true, if_false, Bool.false_eq_true, Nat.zero_add, Nat.reduceAdd, Nat.reduceLT, Nat.reduceLeDiff, List.zip_cons_cons, List.zip_nil_left, List.zip_nil_right, List.foldl_cons, List.foldl_nil, Bool.not_true, Bool.not_false, decide_true, decide_false, f_told, g.told]
    · rcases h13 with rfl | ⟨d, rfl⟩ <;> rfl
    · show 0 + (oddL ++ [oddX]).length ≤ 100000
      decide
  rw [filt_false, List.map_nil, List.append_nil] at hlc
  rw [lawTail_is]
  have z : oddL.length < lim := by show 10 < lim; omega
  unfold oddL oddX at hlc
  unfold oddL at z
  simp only [exSs_cons, exSs_nil, exS_ret, exS_retN, exS_asg, exS_asgO, exS_asgT, exS_par2, exS_ex, exS_ifs, exS_for, for_nil, for_cons, fo_some, fr_nx, fr_rt, as_nm, as_tup, ev_var, ev_con, ev_bin, ev_cmp, ev_chain, ev_nt, ev_and, ev_or, ev_ife, ev_tup, ev_lst, ev_dnew, ev_sub, ev_slc, ev_rev, ev_call, ev_callK, ev_b1, ev_mut, ev_isi, evs_nil, evs_cons, evO_nil, evO_one, evT_and, evT_or, evT_nt, evI_val, evTs_nil, evTs_one, q_bind, q_bindS, q_of, q_at, q_rw, q_seq_nx, q_seq_rt, q_var, vd_dat, vd_own, q_rd, rdo_dat, rdo_own, q_brw_var, thV_some, twV_some, q_two_var, q_and, q_or, q_chain, q_callD, q_callKD, kiR_some, q_b1F, q_b1, q_isi, q_mut, q_ownK, oko_own, kindD, q_mutD, mdo_own, mdr_some, g_fn, g_ki, g_tru, g_cmp, g_bin, gg_get, g_slc, g_rev, g_it, g_isi_int, g_isi_bool, g_isi_str, g_isi_tuple, g_isi_list, g_bF_len, g_bF_repr, g_bF_max, g_bF_str, g_bF_int, g_bF_tuple, g_bF_all, g_bF_any, g_bF_list, g_b1_len, g_b1_repr, g_b1_max, g_b1_str, g_b1_int, g_b1_tuple, g_b1_all, g_mu_append, k_tbl, c_eqI, c_neI, c_ltI, c_gtI, c_geI, c_leI, c_eqL, c_neL, c_eqT, c_neT, c_isB, c_notB, c_eqS, ownD, asgL, t_bl, t_non, t_lst, t_tup, n_str, n_lst, n_tup, tu_lst, li_tup, li_lst, i_int, i1_int, it_lst, it_tup, rv_tup, at_tup, o_some, g_tupL, g_lstL, sl_tup, b_addI, b_subI, b_addB, b_subB, b_subIB, bw_con, tw_con, et_con, bw_glob, tw_glob, et_glob, bw_bin, tw_bin, et_bin, bw_neg, tw_neg, et_neg, bw_nt, tw_nt, bw_and, tw_and, bw_or, tw_or, bw_cmp, tw_cmp, et_cmp, bw_chain, tw_chain, et_chain, bw_ife, tw_ife, et_ife, bw_tup, tw_tup, et_tup, bw_lst, tw_lst, et_lst, bw_dnew, tw_dnew, et_dnew, bw_sub, tw_sub, et_sub, bw_slc, tw_slc, et_slc, bw_rev, tw_rev, et_rev, bw_call, tw_call, et_call, bw_callK, tw_callK, et_callK, bw_b1, tw_b1, et_b1, bw_mth, tw_mth, et_mth, bw_mut, tw_mut, et_mut, bw_isi, tw_isi, et_isi, bw_lc, tw_lc, et_lc, bw_sset, tw_sset, et_sset, et_var, List.getElem?_cons_zero, List.getElem?_cons_succ, List.set_cons_zero, List.set_cons_succ, List.length_cons, List.length_nil, Option.map_some, if_true, if_false, Bool.false_eq_true, Nat.zero_add, Nat.reduceAdd, Nat.reduceLT, Nat.reduceLeDiff, List.zip_cons_cons, List.zip_nil_left, List.zip_nil_right, List.foldl_cons, List.foldl_nil, Bool.not_true, Bool.not_false, decide_true, decide_false, hr, e, hm, q_append z, ev_lc, List.map_cons, List.map_nil, List.append_nil, List.cons_append, List.nil_append, List.isEmpty_nil]
  simp only [List.cons_append, List.nil_append] at hlc
  rw [hlc]
  simp only [exSs_cons, exSs_nil, exS_ret, exS_retN, exS_asg, exS_asgO, exS_asgT, exS_par2, exS_ex, exS_ifs, exS_for, for_nil, for_cons, fo_some, fr_nx, fr_rt, as_nm, as_tup, ev_var, ev_con, ev_bin, ev_cmp, ev_chain, ev_nt, ev_and, ev_or, ev_ife, ev_tup, ev_lst, ev_dnew, ev_sub, ev_slc, ev_rev, ev_call, ev_callK, ev_b1, ev_mut, ev_isi, evs_nil, evs_cons, evO_nil, evO_one, evT_and, evT_or, evT_nt, evI_val, evTs_nil, evTs_one, q_bind, q_bindS, q_of, q_at, q_rw, q_seq_nx, q_seq_rt, q_var, vd_dat, vd_own, q_rd, rdo_dat, rdo_own, q_brw_var, thV_some, twV_some, q_two_var, q_and, q_or, q_chain, q_callD, q_callKD, kiR_some, q_b1F, q_b1, q_isi, q_mut, q_ownK, oko_own, kindD, q_mutD, mdo_own, mdr_some, g_fn, g_ki, g_tru, g_cmp, g_bin, gg_get, g_slc, g_rev, g_it, g_isi_int, g_isi_bool, g_isi_str, g_isi_tuple, g_isi_list, g_bF_len, g_bF_repr, g_bF_max, g_bF_str, g_bF_int, g_bF_tuple, g_bF_all, g_bF_any, g_bF_list, g_b1_len, g_b1_repr, g_b1_max, g_b1_str, g_b1_int, g_b1_tuple, g_b1_all, g_mu_append, k_tbl, c_eqI, c_neI, c_ltI, c_gtI, c_geI, c_leI, c_eqL, c_neL, c_eqT, c_neT, c_isB, c_notB, c_eqS, ownD, asgL, t_bl, t_non, t_lst, t_tup, n_str, n_lst, n_tup, tu_lst, li_tup, li_lst, i_int, i1_int, it_lst, it_tup, rv_tup, at_tup, o_some, g_tupL, g_lstL, sl_tup, b_addI, b_subI, b_addB, b_subB, b_subIB, bw_con, tw_con, et_con, bw_glob, tw_glob, et_glob, bw_bin, tw_bin, et_bin, bw_neg, tw_neg, et_neg, bw_nt, tw_nt, bw_and, tw_and, bw_or, tw_or, bw_cmp, tw_cmp, et_cmp, bw_chain, tw_chain, et_chain, bw_ife, tw_ife, et_ife, bw_tup, tw_tup, et_tup, bw_lst, tw_lst, et_lst, bw_dnew, tw_dnew, et_dnew, bw_sub, tw_sub, et_sub, bw_slc, tw_slc, et_slc, bw_rev, tw_rev, et_rev, bw_call, tw_call, et_call, bw_callK, tw_callK, et_callK, bw_b1, tw_b1, et_b1, bw_mth, tw_mth, et_mth, bw_mut, tw_mut, et_mut, bw_isi, tw_isi, et_isi, bw_lc, tw_lc, et_lc, bw_sset, tw_sset, et_sset, et_var, List.getElem?_cons_zero, List.getElem?_cons_succ, List.set_cons_zero, List.set_cons_succ, List.length_cons, List.length_nil, Option.map_some, if_true, if_false, Bool.false_eq_true, Nat.zero_add, Nat.reduceAdd, Nat.reduceLT, Nat.reduceLeDiff, List.zip_cons_cons, List.zip_nil_left, List.zip_nil_right, List.foldl_cons, List.foldl_nil, Bool.not_true, Bool.not_false, decide_true, decide_false, List.isEmpty_nil]
end DL.K17
set_option maxRecDepth 100000
set_option maxHeartbeats 4000000
set_option linter.all false
namespace DL.K17
open PySem PySem.Spec PyProof.Rows L2 DL
/-! ### the deck is laid -/
def mixF (m c : Int) : Int := (m * 48271 + c % 2147483629 + 31) % 2147483587
def mixed (cs : List Int) : Int := cs.foldl mixF 136917
theorem mixF_lt (m c : Int) : 0 ≤ mixF m c ∧ mixF m c < 2147483648 := by
  unfold mixF
  omega
theorem mixed_lt (cs : List Int) : 0 ≤ mixed cs ∧ mixed cs < 2147483648 := by
  have go : ∀ (cs : List Int) (m : Int), 0 ≤ m ∧ m < 2147483648 → 0 ≤ cs.foldl mixF m ∧ cs.foldl mixF m < 2147483648 := by
    intro cs
    induction cs with
    | nil => exact fun m h => h
    | cons c cs ih => exact fun m _ => ih _ (mixF_lt m c)
  exact go cs _ (by decide)
def spDeck (K : PySem.W.Frag) : Sp := fun vs H Q E => ∃ (a : Addr) (ns : List Int), vs = [.ref a] ∧ SqL K H a (ns.map V.int) ∧ ns.length ≤ 63 ∧
  ∀ p gl H', H p = none → H gl = none → Ext H H' → H' p = some (dko gl (mixed ns) 0) → H' gl = some (.lst (ns.reverse.map V.int)) → Q (.ref p) H'
theorem merge_deck {gl : Addr} {m : Int} : mergeK [] [(kC, V.ref gl), (kM, .int m), (kD, .int 0)] = [(kC, V.ref gl), (kM, .int m), (kD, .int 0)] := by rfl
theorem ok_deck {P : Program} {wd : World} {K : PySem.W.Frag} {mg : Str → Option Value} {base : Heap} {f : Addr} {fd : FuncData} {CX : CXT} (hi : mg "int" = none) (hl : mg "list" = none)
    (F : FunD K "_law_deck" "_law_deck" (defArgs s_l_deck) (defBody s_l_deck) (defScope s_l_deck) [] [] f fd) : FnOk P wd K mg base CX 1 f fd P_l_deck (spDeck K) := by
  refine F.ok sc_l_deck (fun vs H Q E ⟨a, ns, e, _⟩ => by rw [e]; rfl) (fun cdv A outer s H vs Q E hr h => ?_)
  have hu := hu_of hr
  have nd := sc_l_deck.nd
  have hint : bootBuiltins "int" = some (.type "int") := by decide +kernel
  have hlist : bootBuiltins "list" = some (.type "list") := by decide +kernel
  refine ⟨_, PSs.nox (pss_cons (ps_par (i := 1) (j := 2) rfl nd rfl rfl (by decide) (by rfl) (by rfl) (pa_cons (pe_callTy call_list_of (by rfl) hl hlist (pa_cons (pe_slice sl_list (pv 0) po_none (po_some pe_int)) pa_nil)) (pa_cons pe_int pa_nil)) (by rfl))
    (pss_cons (ps_for PassesOwn.never rfl (pi_list (pv 1)) (pg_name (i := 3) nd rfl (Or.inl (by rfl)))
      (pss_one (ps_set (i := 2) nd rfl (Or.inl (by rfl)) (pe_op op_mod (pe_callTy call_int1 (by rfl) hi hint (pa_cons (pe_op op_add (pe_op op_add (pe_op op_mul (pv 2) pe_int) (pe_op op_mod (pe_callTy call_int1 (by rfl) hi hint (pa_cons (pv 3) pa_nil)) pe_int)) pe_int) pa_nil)) pe_int))))
    (pss_one (ps_ret (pe_disp (pps_cons pe_str (pe_revA (pv 1)) (pps_cons pe_str (pv 2) (pps_cons pe_str pe_int pps_nil))) rfl rfl (by simp) (by decide)))))), ?_⟩
  obtain ⟨a, ns, rfl, hS, hlen, q⟩ := h
  refine ⟨_, rfl, 63, rfl, a, _, rfl, hS, fun p1 n1 => ⟨p1, _, rfl, .inl (.inl (.inl upd_same)), fun l n2 => ⟨_, _, rfl, ?_⟩⟩⟩
  have ecut : cutV (ns.map V.int) none (some 63) = ns.map V.int := by
    unfold cutV
    have e : HT.sIx (ns.map V.int).length (ns.map V.int).length (some 63) = (ns.map V.int).length := by
      have h63 : (63 : Int) = ((63 : Nat) : Int) := rfl
      rw [h63, HT.sIx_nat, List.length_map]
      omega
    rw [e]
    show (((ns.map V.int).drop 0).take ((ns.map V.int).length - 0)) = _
    rw [List.drop_zero, Nat.sub_zero, List.take_length]
  rw [ecut] at n2 ⊢
  -- the heap behind the first row
  have hl1 : upd (upd H p1 (.lst (ns.map V.int))) l (.lst (ns.map V.int)) l = some (.lst (ns.map V.int)) := upd_same
  have ex1 : Ext H (upd (upd H p1 (.lst (ns.map V.int))) l (.lst (ns.map V.int))) := (Ext.new n1).trans (Ext.new n2)
  refine ⟨_, rfl, l, rfl, ⟨_, .inl (.inl hl1)⟩, for_list (K := K) (a := l) (xs := ns.map V.int) (fun i σ H2 => (∃ c, σ = [some (.ref a), some (.ref l), some (.int ((ns.take i).foldl mixF 136917)), c]) ∧ H2 = upd (upd H p1 (.lst (ns.map V.int))) l (.lst (ns.map V.int))) ⟨⟨_, rfl⟩, rfl⟩ (fun i σ H2 _ ⟨_, e⟩ => by rw [e]; exact .inl (.inl hl1)) (fun i x σ H2 hx ⟨⟨c, e⟩, e2⟩ => ?_) (fun σ H2 ⟨⟨c, e⟩, e2⟩ => ?_)⟩
  · subst e e2
    rw [List.getElem?_map] at hx
    cases hn : ns[i]? with
    | none => rw [hn] at hx; cases hx
    | some z =>
      rw [hn] at hx
      cases hx
      refine ⟨_, rfl, _, _, rfl, rfl, .inr ⟨by decide, by decide⟩, _, rfl, .inl ⟨_, rfl, _, _, rfl, rfl, (by show (0 : Int) < _; decide), _, _, rfl, rfl, _, _, rfl, rfl, .inl ⟨_, rfl, _, _, rfl, rfl, (by show (0 : Int) < _; decide), ⟨some (.int z), ?_⟩, rfl⟩⟩⟩
      have : ns.take (i + 1) = ns.take i ++ [z] := by rw [List.take_add_one, hn]; rfl
      rw [this, List.foldl_append]
      rfl
  · subst e e2
    refine fun p np => ⟨_, rfl, l, _, rfl, .inl ⟨.inl (.inl (by rw [upd_ne (ne_of_none hl1 np)]; exact hl1)), fun gl ngl => ⟨_, rfl, ?_⟩⟩⟩
    have npg : p ≠ gl := fun z => by rw [← z, upd_same] at ngl; cases ngl
    refine ⟨by rw [upd_ne npg]; exact upd_same, [(kC, .ref gl), (kM, .int (mixed ns)), (kD, .int 0)], ?_, by simp, ?_⟩
    · rw [List.length_map, List.take_length]
      rfl
    · rw [merge_deck]
      have ex2 : Ext H (upd (upd (upd (upd (upd H p1 (.lst (ns.map V.int))) l (.lst (ns.map V.int))) p (.dK [])) gl (.lst (ns.map V.int).reverse)) p (dko gl (mixed ns) 0)) := fun b o hb => by
        have h1 := ex1 b o hb
        have nb : b ≠ p := ne_of_none h1 np
        have h2 := Ext.new np (o := .dK []) b o h1
        rw [upd_ne nb]
        exact Ext.new ngl b o h2
      refine q p gl _ ?_ ?_ ex2 upd_same ?_
      · cases e : H p with
        | none => rfl
        | some o => rw [ex1 p o e] at np; cases np
      · cases e : H gl with
        | none => rfl
        | some o => rw [Ext.new np (o := .dK []) gl o (ex1 gl o e)] at ngl; cases ngl
      · rw [upd_ne (Ne.symm npg), upd_same, List.map_reverse]
end DL.K17
set_option maxRecDepth 100000
set_option maxHeartbeats 2000000
set_option linter.all false
namespace DL
open PySem PySem.Spec PyProof.Rows L2
/-! ### a def's promise where no guard is set -/
structure FnG (P : Program) (wd : World) (K : PySem.W.Frag) (mg : Str → Option Value) (base : Heap) (CX : CXT) (k : Nat) (f : Addr) (fd : FuncData) (ps : List Str) (sp : Sp) : Prop where
  run : ∀ (A : Around) (outer : List Env) (s : Shared) (H : Hp) (args : Args) (us : List Value) (vs : List V) (Q : VK) (E : XK),
    A.guards = some [] → Room k A → Env0 P wd K mg base A outer s H → BindsTo s fd args (ps.zip us) → Vals vs us → sp vs H Q E →
    codeAny (model P wd) A (.call (.ref f) args) (CR CX outer P wd H s Q E) s
section
variable {P : Program} {wd : World} {K : PySem.W.Frag} {mg : Str → Option Value} {base : Heap} {CX : CXT} {k : Nat} {N ps : List Str} {sp : Sp}
theorem fnG_of {f : Addr} {name qual : Str} {params : Arguments} {body : List Stmt} {scope : Scope} {dvs : List V} {kws : List (Str × V)} {fd : FuncData}
    (F : FunD K name qual params body scope dvs kws f fd) (S : FnScope N ps scope) (len : ∀ vs H Q E, sp vs H Q E → vs.length = ps.length)
    (hbody : ∀ (cdv : Value) (A : Around) (outer : List Env) (s : Shared) (H : Hp) (vs : List V) (Q : VK) (E : XK), A.guards = some [] → Room k (A.deeper (envOfC qual scope s.heap.objs.size f cdv)) → sp vs H Q E →
      ∃ t, PSs (cxOf CX P wd K mg base N qual scope f cdv A outer s H E) body t ∧ t { nx := fun _ H' => Q .non H', rt := Q } (start N vs) H) : FnG P wd K mg base CX (k + 1) f fd ps sp := by
  obtain ⟨oc, od, dV, kV, doc, pm, an, cdv, ct, osl, rfl, lk, hcd, _, _⟩ := F.ex
  refine ⟨fun A outer s H args us vs Q E hg hr e0 hb r hsp => ?_⟩
  have hvl := len vs H Q E hsp
  have KX : K.In s.heap := e0.mod.kin.keeps fun b o e => (e0.bs b o e).1
  have lim : s.heap.NoLimit := e0.mod.nolimit.keeps fun b o e => (e0.bs b o e).1
  have kinds : ∀ y ∈ ps.zip us, scope.names.lookup y.1 = some .local ∨ (scope.names.lookup y.1 = some .cell ∧ ((cellsFrom (s.heap.objs.size + 1) scope.names []).lookup y.1).isSome = true) := by
    rintro ⟨n, v⟩ hy
    rcases S.par n (List.of_mem_zip hy).1 with z | z
    · exact .inl z
    · exact .inr ⟨z, PySem.W.cellsFrom_some _ _ _ (.inl z)⟩
  refine codeAny_call_function hr.depth (KX _ _ lk) rfl S.co S.gen rfl (PySem.W.codeRec_of KX hcd) (hb _ _ _ _ ?_)
  refine wpAny_newFunctionEnv_cells S.kind kinds fun env henv s1 x => ?_
  subst henv
  refine ⟨lim.keeps x.toInCall.keep, codeAny_func ?_⟩
  have I : Inv (cxOf CX P wd K mg base N qual scope f cdv A outer s H E) [] (start N vs) H s1 := inv_start S hr.hd e0 hvl r x
  obtain ⟨t, ht, hq⟩ := hbody cdv A outer s H vs Q E hg (hr.deeper _) hsp
  refine wpAny_mono (ht.run [] s1 (start N vs) H _ I hq) (fun fl s' hs => ?_) fun e s' hs => hs
  have fin : ∀ {σ' : L2.St} {H' : Hp} {v : V} {u : Value}, Inv (cxOf CX P wd K mg base N qual scope f cdv A outer s H E) [] σ' H' s' → RelV v u → Q v H' → CE outer P wd H s Q u s' :=
    fun {σ' H' v u} J rv q => ⟨v, H', J.os, J.bare, J.base, J.hok, rv, q⟩
  cases fl with
  | ret u =>
    obtain ⟨v, σ', H', J, rv, q⟩ := hs
    exact fin J rv q
  | next =>
    obtain ⟨σ', H', J, q⟩ := hs
    exact fin (v := V.non) (u := Value.none) J rfl q
  | brk =>
    obtain ⟨_, _, _, q⟩ := hs
    exact False.elim q
  | cont =>
    obtain ⟨_, _, _, q⟩ := hs
    exact False.elim q
end
/-! ### the head's end -/
def scrO (vs : List Value) : Obj := { cls := .type "list", data := .seq vs.toArray }
/-- the script as it is given: an object of its own, or one that K tells -/
structure Scr (P : Program) (w : World) (K : PySem.W.Frag) (a : Addr) (ns : List Int) (h : Heap) (H : Hp) : Prop where
  sq : SqL K H a (ns.map V.int)
  ok : HOk P w H h
  only : ∀ b, b ≠ a → H b = none
  frz : H a = none ∨ ∃ o xs, H a = some (.frz o (.lst xs))
  out : H a = none ∨ K.lookup a = none
theorem scr_ex {P : Program} {w : World} {K : PySem.W.Frag} {a : Addr} {vs : List Value} {ns : List Int} {h : Heap} (KX : K.In h) (ha : h.get? a = some (scrO vs)) (hi : IntsAre vs ns) (hl : ns.length ≤ sizeLine) : ∃ H, Scr P w K a ns h H := by
  have rv := vals_ints hi
  cases hk : K.lookup a with
  | some o =>
    have e : o = scrO vs := Option.some.inj ((KX a o hk).symm.trans ha)
    subst e
    exact ⟨fun _ => none, .inr ⟨scrO vs, vs.toArray, _, hk, rfl, rfl, rfl, by rw [List.size_toArray, hi.length]; exact hl, by simpa using rv⟩, fun b u z => (nomatch (show (none : Option HO) = some u from z)), fun _ _ => rfl, .inl rfl, .inl rfl⟩
  | none =>
    have self : upd (fun _ => none) a (.frz (scrO vs) (.lst (ns.map V.int))) a = some (.frz (scrO vs) (.lst (ns.map V.int))) := upd_same
    refine ⟨upd (fun _ => none) a (.frz (scrO vs) (.lst (ns.map V.int))), .inl (.inr ⟨_, self⟩), fun b u z => ?_, fun b hb => upd_ne hb, .inr ⟨_, _, self⟩, .inr hk⟩
    by_cases hb : b = a
    · subst hb
      rw [self] at z
      cases z
      exact ⟨ha, by rw [List.length_map]; exact hl, vs, _, rv, ha⟩
    · rw [upd_ne hb] at z
      cases z
section
variable {P : Program} {w : World} {K : PySem.W.Frag} {mg mb : Str → Option Value} {CX : CXT} {k : Nat} {fa a : Addr} {fd : FuncData} {x : Str} {sp : Sp} {s : Shared} {H : Hp} {vs : List Value} {ns : List Int}
/-- what is no list is not hidden -/
theorem Scr.seen (S : Scr P w K a ns s.heap H) (ha : s.heap.get? a = some (scrO vs)) {b : Addr} {o : Obj} (e : s.heap.get? b = some o) (hd : H b = none ∨ ∃ es ep, o.data = .dict es ep) : (hidT s.heap H).get? b = some o := by
  refine hidT_get e ?_
  rcases hd with z | ⟨es, ep, z⟩
  · exact z
  · by_cases hb : b = a
    · rw [hb, ha] at e
      have q : o = scrO vs := (Option.some.inj e).symm
      rw [q] at z
      exact absurd z (fun z => nomatch z)
    · exact S.only b hb
theorem Scr.ns_of (S : Scr P w K a ns s.heap H) (ha : s.heap.get? a = some (scrO vs)) {b : Addr} {m : Str → Option Value} (n : s.heap.Ns b m) : (hidT s.heap H).Ns b m := by
  obtain ⟨o, es, ep, e, d, r⟩ := n
  exact ⟨o, es, ep, S.seen ha e (.inr ⟨es, ep, d⟩), d, r⟩
theorem Scr.kin (S : Scr P w K a ns s.heap H) (ha : s.heap.get? a = some (scrO vs)) (KX : K.In s.heap) : K.In (hidT s.heap H) := fun b o e => by
  refine S.seen ha (KX b o e) (.inl ?_)
  by_cases hb : b = a
  · rcases S.out with z | z
    · rw [hb]; exact z
    · rw [hb, z] at e; cases e
  · exact S.only b hb
theorem scr_run (S : Scr P w K a ns s.heap H) (ha : s.heap.get? a = some (scrO vs)) (KX : K.In s.heap) (hmg : s.heap.Ns mainGlobals mg) (hmb : s.heap.Ns builtinsNs mb) (hbb : ∀ x : Str, x ≠ "__name__" → mb x = bootBuiltins x) (hlim : s.heap.NoLimit) (hgen : s.gens = #[]) (hr : Room k callerA)
    (F : ∀ base : Heap, FnG P w K mg base CX k fa fd [x] sp) (hbind : BindsTo s fd ⟨[.ref a], []⟩ [(x, .ref a)]) (hsp : sp [.ref a] H (fun v _ => v = .bl true) fun _ _ _ => False) (hCX : ∀ e s', CX [] H s (fun _ _ _ => False) e s' → False) :
    codeAny (model P w) callerA (.call (.ref fa) ⟨[.ref a], []⟩) (fun r t => r = .ok (.ret (.bool true)) ∧ OldK s.heap t.heap ∧ t.os = s.os ∧ AllBare t.gens) s := by
  have md : Mod K mg (hidT s.heap H) := by
    obtain ⟨mc, l1, l2⟩ := hlim
    exact { kin := S.kin ha KX, glob := S.ns_of ha hmg, blt := ⟨mb, S.ns_of ha hmb, hbb⟩, nolimit := ⟨mc, S.ns_of ha l1, l2⟩ }
  have ev0 : Env0 P w K mg (hidT s.heap H) callerA [] s H :=
    { frames := rfl, mod := md, bs := fun b o e => of_hidT e, bsz := Nat.le_of_eq (hidT_size _ _), funs := trivial, frf := fun b hb => (nomatch (show b ∈ ([] : List Addr) from hb)), hok := S.ok, bare := .of_eq hgen }
  have go := (F _).run callerA [] s H ⟨[.ref a], []⟩ [.ref a] [.ref a] _ _ rfl hr ev0 hbind (.cons rfl .nil) hsp
  refine codeAny_mono go ?_
  rintro (e | fl) t h
  · exact (hCX e t h).elim
  cases fl with
  | ret u =>
    obtain ⟨v, H', os, bare, un, hok', rv, rfl⟩ := h
    have hu : u = Value.bool true := rv
    refine ⟨by rw [hu], OldK.of_keep fun b o e => ?_, os, bare⟩
    have free : H b = none → t.heap.get? b = some o := fun q => un.keep b o e q (fun z => nomatch (show b ∈ ([] : List Addr) from z)) (fun z => nomatch z)
    by_cases hb : b = a
    · rcases S.frz with z | ⟨ob, xs, z⟩
      · exact free (by rw [hb]; exact z)
      · have old := (S.ok a _ z).1
        have new := (hok' a _ (un.frzs a ob _ z)).1
        rw [hb] at e ⊢
        exact new.trans (old.symm.trans e)
    · exact free (S.only b hb)
  | next => exact False.elim h
  | brk => exact False.elim h
  | cont => exact False.elim h
end
theorem walk_g {l : PySem.W.OpenLaw} {n k : Nat} {q : Program} {loose : List Str} {XP : (Str → Option Value) → Heap → Prop} {YP : World → Heap → Prop} {d : DefRec} {CX : World → CXT} {x : Str} (hn : l.most = some n) (hn2 : n ≤ sizeLine) (hdf : d.params.defaults = []) (hr : Room k callerA)
    (F : ∀ (w : World) (mg : Str → Option Value) (fa : Addr) (h : Heap), YP w h → h.Ns mainGlobals mg → mg d.name = some (.ref fa) → ∃ (K : PySem.W.Frag) (fd : FuncData) (sp : Sp), K.In h ∧ (∀ (s : Shared) (u : Value), BindsTo s fd ⟨[u], []⟩ [(x, u)]) ∧
      (∀ (H : Hp) (a : Addr) (ns : List Int), ns.length ≤ n → SqL K H a (ns.map V.int) → sp [.ref a] H (fun v _ => v = .bl true) fun _ _ _ => False) ∧ ∀ base : Heap, FnG l.prog w K mg base (CX w) k fa fd [x] sp)
    (hCX : ∀ (w : World) (H : Hp) (s : Shared) (e : Value) (s' : Shared), CX w [] H s (fun _ _ _ => False) e s' → False) : PySem.W.WalkO q loose XP YP l.row.toRowW d [] (fun f vs => PySem.call f vs) := by
  refine Att.attach_call hn hdf ?_
  intro w s₀ s mg mb fa o pm cd doc a vs ns G Y ho hd hcd hmg hobj hints hlen hg
  obtain ⟨K, fd, sp, KX, hb, hsp, hF⟩ := F w mg fa s.heap Y G.T.g hmg
  obtain ⟨H, S⟩ := scr_ex (P := l.prog) (w := w) KX hobj hints (Nat.le_trans hlen hn2)
  exact scr_run S hobj KX G.T.g G.T.b G.T.builtins G.T.nolimit hg hr hF (hb s _) (hsp H a ns hlen S.sq) fun e t => hCX w H s e t
/-! ### facts of the top, the place of sys.modules among them -/
def smB (K : PySem.W.Frag) : Bool := match K.lookup sysModules with
  | some o => (match o.cls with
    | .type n => decide (n = "dict")
    | _ => false)
  | none => false
theorem smB_ok {K : PySem.W.Frag} (h : smB K = true) : SmOk K := by
  unfold smB at h
  cases e : K.lookup sysModules with
  | none => rw [e] at h; cases h
  | some o =>
    rw [e] at h
    simp only at h
    refine ⟨o, e, ?_⟩
    cases hc : o.cls with
    | type n =>
      rw [hc] at h
      rw [of_decide_eq_true h]
    | _ => rw [hc] at h; cases h
def kS (n : Nat) (g : Addr → Option Obj) : PySem.W.Frag := He.frG g (sysModules :: He.asD g n)
abbrev AlS : Type := He.AlD × Bool
def obS (n : Nat) (fa : List He.Fa) (fn : List He.DefD) (g : Addr → Option Obj) : AlS := (He.obsD fa fn (kS n g), smB (kS n g))
def hookS (n : Nat) (fa : List He.Fa) (fn : List He.DefD) : PySem.W.Hook where
  α := AlS
  obs s := obS n fa fn s.heap.get?
  val _ := (He.valD fn, true)
  says _ h := ∃ K : PySem.W.Frag, K.In h ∧ He.SaysD fa fn K ∧ SmOk K
  of _ s e := ⟨kS n s.heap.get?, He.frG_in, congrArg (fun z : AlS => z.1) e, smB_ok (congrArg (fun z : AlS => z.2) e)⟩
  keeps _ _ _ y k := by
    obtain ⟨K, h1, h2⟩ := y
    exact ⟨K, h1.keeps k, h2⟩
theorem obS_eq {n : Nat} {fa : List He.Fa} {fn : List He.DefD} {g : Addr → Option Obj} {s : Shared} (h : ∀ a, g a = s.heap.get? a) : obS n fa fn g = (hookS n fa fn).obs s := by
  have e : g = s.heap.get? := funext h
  subst e
  rfl
end DL
set_option linter.all false
set_option maxRecDepth 100000
set_option maxHeartbeats 0
namespace DL.K17
open PySem PySem.Spec PyProof.Rows L2 DL
/-! ### the top's facts -/
def dd (x : Str) (s : Stmt) : He.DefD := ⟨(x, none), x, x, defArgs s, defBody s, defScope s, [], []⟩
def defs : List He.DefD := [dd "is_int" s_is_int, dd "is_row" s_is_row, dd "is_table" s_is_table, dd "is_colouring" s_is_colouring, dd "_law_deck" s_l_deck, dd "_law_draw" s_l_draw, dd "_law_pick" s_l_pick, dd "_law_tables" s_l_tables,
  dd "_law_shade" s_l_shade, dd "_law_is_whole" s_l_is_whole, dd "_law_is_line" s_l_is_line, dd "_law_is_shade" s_l_is_shade, dd "_law_bent" s_l_bent, dd "_law_told_right" s_l_told_right, dd "law" s_law]
def names : List Str := ["is_int", "is_row", "is_table", "is_colouring", "_law_deck", "_law_draw", "_law_pick", "_law_tables", "_law_shade", "_law_is_whole", "_law_is_line", "_law_is_shade", "_law_bent", "_law_told_right", "law"]
def facs : List He.Fa := names.map He.Fa.glo ++ freeB.map He.Fa.free
abbrev R : PySem.W.OpenRow := PySem.W.OpenLaw.row PySem.Challenge.rw_sheetmoves_k17_values_that_are_colouring
abbrev qv : Program := PySem.W.view R.prog [17]
abbrev hk : PySem.W.Hook := hookS 4 facs defs
def ob (s : PySem.W.SharedT) : AlS := obS 4 facs defs (HandSHeadRun.getT s)
theorem ob_eq (s : PySem.W.SharedT) : ob s = hk.obs s.abs := obS_eq (HandSHeadRun.getT_eq s)
def loose : List Str := ["__name__", "is_int", "is_row", "is_table", "is_colouring", "_law_deck", "_law_draw", "_law_pick", "_law_tables", "_law_shade", "_law_is_whole", "_law_is_line", "_law_is_shade", "_law_bent", "_law_told_right"]
theorem run (w : World) : HandSHeadRun.RunEq R qv hk ob 2000 loose w := by
  intro os
  kernel_rfl
end DL.K17
set_option linter.all false
set_option maxRecDepth 100000
set_option maxHeartbeats 4000000
namespace DL
open PySem PySem.Spec PyProof.Rows L2
/-! ### closures by names -/
section
variable {G : GC} {P : Program} {wd : World} {base : Heap} {k j : Nat}
def Cl (G : GC) (P : Program) (wd : World) (base : Heap) (k : Nat) (x : Str) (F : Fn) : Prop := ∃ a, G.mg x = some (.ref a) ∧ PySem.W.keepIn G.K (.ref a) = true ∧ CalD G P wd base k (.ref a) F ∧ CalB G P wd base k (.ref a) F
theorem cl_of {a : Addr} {fd : FuncData} {ps : List Str} {x : Str} {F : Fn} (h : FnD G P wd base j a fd ps F) (hj : j ≤ k) (hb : Binds G.K fd ps []) (hm : G.mg x = some (.ref a)) (hk : PySem.W.keepIn G.K (.ref a) = true) : Cl G P wd base k x F := by
  have e : (fun as w => F (as ++ []) w) = F := by
    funext as w
    rw [List.append_nil]
  have h1 := (h.mono hj).cal hb (dvs := []) (dd := []) .nil fun ok H => rfl
  have h2 := (h.mono hj).calB hb (dvs := []) (dd := []) .nil fun ok H => rfl
  rw [e] at h1 h2
  exact ⟨a, hm, hk, h1, h2⟩
theorem fns_nil : FnsOk G P wd base k (K17.fl []) K17.ki0 := ⟨fun f F h => (nomatch (show (none : Option Fn) = some F from h)), fun f F ks us ds h => (nomatch (show (none : Option Fn) = some F from h))⟩
theorem fns_cons {x : Str} {F : Fn} {l : List (Str × Fn)} (c : Cl G P wd base k x F) (r : FnsOk G P wd base k (K17.fl l) K17.ki0) : FnsOk G P wd base k (K17.fl ((x, F) :: l)) K17.ki0 := by
  refine ⟨fun f F' h => ?_, fun f F' ks us ds _ h => (nomatch (show (none : Option (List D)) = some ds from h))⟩
  by_cases e : f = x
  · subst e
    rw [K17.fl_hit] at h
    cases h
    exact c
  · rw [K17.fl_miss (by simpa using e)] at h
    exact r.fns f F' h
/-- the same functions, one of them called by names too -/
theorem fns_key {fn : Str → Option Fn} {ki : Str → List D → List Str → List D → Option (List D)} (r : FnsOk G P wd base k fn K17.ki0)
    (h : ∀ f F ks us ds, fn f = some F → ki f [] ks us = some ds → ∃ a, G.mg f = some (.ref a) ∧ PySem.W.keepIn G.K (.ref a) = true ∧ CalK G P wd base k (.ref a) ks (kiF (stdG fn ki) f F ks)) : FnsOk G P wd base k fn ki := ⟨r.fns, h⟩
theorem calK_imp {val : Value} {ks : List Str} {F F' : Fn} (h : CalK G P wd base k val ks F) (hi : ∀ ds w, F' ds w = .stuck ∨ F' ds w = F ds w) : CalK G P wd base k val ks F' := by
  intro X W c pins s σ H vs us Q Bd ρ w ds I r a hv q
  rcases hi ds w with e | e
  · rw [e] at q
    exact q.elim
  · rw [e] at q
    exact h X W c pins s σ H vs us Q Bd ρ w ds I r a hv q
def swF (F : Fn) : Fn := fun us w => match us with
  | [x, y] => F [y, x] w
  | _ => .stuck
theorem FnD.calS {f : Addr} {fd : FuncData} {ps ks : List Str} {F : Fn} (h : FnD G P wd base k f fd ps F) (hb : ∀ (s : Shared) (u v : Value), BindsTo s fd ⟨[], ks.zip [u, v]⟩ (ps.zip [v, u])) : CalK G P wd base k (.ref f) ks (swF F) := by
  rintro X W c pins s σ H vs us Q Bd ρ w as I r a hv q
  match as, hv, q with
  | [], _, q => exact q.elim
  | [_], _, q => exact q.elim
  | _ :: _ :: _ :: _, _, q => exact q.elim
  | [x, y], hv, q =>
    have q' : PostC G (BdC Bd (owns ρ σ)) H (F [y, x] w) Q (fun cls dd H' => W cls dd σ H') := PostC.ofE a q
    obtain ⟨v1, r1, e1, h1, v2, r2, e2, h2, h3⟩ := hv
    subst e1
    subst e2
    cases (show r2 = [] from h3)
    match us, r with
    | [u1, u2], .cons z1 (.cons z2 .nil) =>
      have e0 := I.env0
      rw [c.K, c.mg, c.prog, c.w, c.base] at e0
      have dl : DtL G (okA Bd (owns ρ σ)) H [y, x] [v2, v1] := ⟨v2, [v1], rfl, h2, v1, [], rfl, h1, rfl⟩
      have run := h.run X.A X.stack s H ⟨[], ks.zip [u1, u2]⟩ [u2, u1] [v2, v1] Q (fun cls dd H' => W cls dd σ H') _ [y, x] w c.gd c.room e0 (hb s u1 u2) (.cons z2 (.cons z1 .nil)) a.callee a.dk (bdC_okL dl) q'
      rw [← c.prog, ← c.w] at run
      refine wpAny_call (codeAny_mono run fun r s' hq => ?_)
      cases r with
      | error e => exact c.tk e s' (XE.of_call I (fun _ _ _ h => h) hq)
      | ok fl =>
        cases fl with
        | ret u => exact I.after hq
        | next => exact False.elim hq
        | brk => exact False.elim hq
        | cont => exact False.elim hq
theorem stuckD {a : Addr} {fd : FuncData} {ps : List Str} : FnD G P wd base k a fd ps (fun _ _ => .stuck) := ⟨fun ds w h => absurd rfl h, fun A outer s H args us vs Q E Bd ds w _ _ _ _ _ _ _ _ q => q.elim⟩
theorem mkD {a : Addr} {fd : FuncData} {x : Str} {s : Stmt} {N ps : List Str} {b : PYs} {fn : Str → Option Fn} {ki : Str → List D → List Str → List D → Option (List D)} (S : StdOk G) (F : FunD G.K x x (defArgs s) (defBody s) (defScope s) [] [] a fd) (sc : FnScope N ps (defScope s))
    (er : erSs (stdG fn ki) true N (defScope s) b (defBody s) = true) (fo : FnsOk G P wd base k fn ki) : FnD G P wd base (k + 1) a fd ps (runB (stdG fn ki) b ps.length N.length) := by
  obtain ⟨oc, od, dV, kV, doc, pm, an, cdv, ct, osl, rfl, lk, hcd, _, _⟩ := F.ex
  exact fnD_of lk hcd sc (std_ok S fo) er
end
end DL
namespace DL.K17
open PySem PySem.Spec PyProof.Rows L2 DL
/-! ### all defs -/
abbrev FDx (K : PySem.W.Frag) (x : Str) (s : Stmt) : Prop := ∃ fd, FunD K x x (defArgs s) (defBody s) (defScope s) [] [] (He.ga K x) fd
structure Fcts (K : PySem.W.Frag) (mg : Str → Option Value) : Prop where
  sm : SmOk K
  free : ∀ x ∈ freeB, mg x = none
  glo : ∀ x ∈ names, mg x = some (.ref (He.ga K x))
  d_int : FDx K "is_int" s_is_int
  d_row : FDx K "is_row" s_is_row
  d_table : FDx K "is_table" s_is_table
  d_colouring : FDx K "is_colouring" s_is_colouring
  d_deck : FDx K "_law_deck" s_l_deck
  d_draw : FDx K "_law_draw" s_l_draw
  d_pick : FDx K "_law_pick" s_l_pick
  d_tables : FDx K "_law_tables" s_l_tables
  d_mk : FDx K "_law_shade" s_l_shade
  d_whole : FDx K "_law_is_whole" s_l_is_whole
  d_line : FDx K "_law_is_line" s_l_is_line
  d_shade : FDx K "_law_is_shade" s_l_is_shade
  d_bent : FDx K "_law_bent" s_l_bent
  d_told : FDx K "_law_told_right" s_l_told_right
  d_law : FDx K "law" s_law
section
variable {G : GC} {P : Program} {wd : World} {base : Heap} {m : Int}
theorem Fcts.std (T : Fcts G.K G.mg) : StdOk G := ⟨T.free, T.sm⟩
theorem cl_int (T : Fcts G.K G.mg) (k : Nat) (hk : 1 ≤ k) : Cl G P wd base k "is_int" F_is_int := by
  obtain ⟨fd, F⟩ := T.d_int
  exact cl_of (mkD (N := N_is_int) (ps := P_is_int) T.std F sc_is_int (er_is_int _ _) fns_nil) hk (F.bindsN fun _ _ _ _ _ _ us hl => match us, hl with | [_], _ => rfl) (T.glo _ (by decide)) F.kp
theorem cl_row (T : Fcts G.K G.mg) (k : Nat) (hk : 2 ≤ k) : Cl G P wd base k "is_row" F_is_row := by
  obtain ⟨fd, F⟩ := T.d_row
  exact cl_of (mkD (N := N_is_row) (ps := P_is_row) T.std F sc_is_row (er_is_row _ _) (fns_cons (cl_int T 1 (by decide)) fns_nil)) hk (F.bindsN fun _ _ _ _ _ _ us hl => match us, hl with | [_, _, _], _ => rfl) (T.glo _ (by decide)) F.kp
theorem cl_table (T : Fcts G.K G.mg) (k : Nat) (hk : 3 ≤ k) : Cl G P wd base k "is_table" F_is_table := by
  obtain ⟨fd, F⟩ := T.d_table
  exact cl_of (mkD (N := N_is_table) (ps := P_is_table) T.std F sc_is_table (er_is_table _ _) (fns_cons (cl_row T 2 (by decide)) fns_nil)) hk (F.bindsN fun _ _ _ _ _ _ us hl => match us, hl with | [_, _, _, _], _ => rfl) (T.glo _ (by decide)) F.kp
theorem fnd_colouring (T : Fcts G.K G.mg) : ∃ fd, FunD G.K "is_colouring" "is_colouring" (defArgs s_is_colouring) (defBody s_is_colouring) (defScope s_is_colouring) [] [] (He.ga G.K "is_colouring") fd ∧ FnD G P wd base 4 (He.ga G.K "is_colouring") fd P_is_colouring F_is_colouring := by
  obtain ⟨fd, F⟩ := T.d_colouring
  exact ⟨fd, F, mkD (N := N_is_colouring) (ps := P_is_colouring) T.std F sc_is_colouring (er_is_colouring _ _) (fns_cons (cl_int T 3 (by decide)) (fns_cons (cl_table T 3 (by decide)) fns_nil))⟩
theorem cl_colouring (T : Fcts G.K G.mg) (k : Nat) (hk : 4 ≤ k) : Cl G P wd base k "is_colouring" F_is_colouring := by
  obtain ⟨fd, F, h⟩ := fnd_colouring (P := P) (wd := wd) (base := base) T
  exact cl_of h hk (F.bindsN fun _ _ _ _ _ _ us hl => match us, hl with | [_, _], _ => rfl) (T.glo _ (by decide)) F.kp
theorem cl_whole (T : Fcts G.K G.mg) (k : Nat) (hk : 1 ≤ k) : Cl G P wd base k "_law_is_whole" F_whole := by
  obtain ⟨fd, F⟩ := T.d_whole
  exact cl_of (mkD (N := N_l_is_whole) (ps := P_l_is_whole) T.std F sc_l_is_whole (er_l_is_whole _ _) fns_nil) hk (F.bindsN fun _ _ _ _ _ _ us hl => match us, hl with | [_], _ => rfl) (T.glo _ (by decide)) F.kp
theorem cl_line (T : Fcts G.K G.mg) (k : Nat) (hk : 2 ≤ k) : Cl G P wd base k "_law_is_line" F_line := by
  obtain ⟨fd, F⟩ := T.d_line
  exact cl_of (mkD (N := N_l_is_line) (ps := P_l_is_line) T.std F sc_l_is_line (er_l_is_line _ _) (fns_cons (cl_whole T 1 (by decide)) fns_nil)) hk (F.bindsN fun _ _ _ _ _ _ us hl => match us, hl with | [_, _, _], _ => rfl) (T.glo _ (by decide)) F.kp
theorem cl_shade (T : Fcts G.K G.mg) (k : Nat) (hk : 3 ≤ k) : Cl G P wd base k "_law_is_shade" F_shade := by
  obtain ⟨fd, F⟩ := T.d_shade
  exact cl_of (mkD (N := N_l_is_shade) (ps := P_l_is_shade) T.std F sc_l_is_shade (er_l_is_shade _ _) (fns_cons (cl_whole T 2 (by decide)) (fns_cons (cl_line T 2 (by decide)) fns_nil))) hk (F.bindsN fun _ _ _ _ _ _ us hl => match us, hl with | [_, _], _ => rfl) (T.glo _ (by decide)) F.kp
theorem kb_colouring {K : PySem.W.Frag} {a : Addr} {fd : FuncData} (F : FunD K "is_colouring" "is_colouring" (defArgs s_is_colouring) (defBody s_is_colouring) (defScope s_is_colouring) [] [] a fd) (s : Shared) (u v : Value) :
    BindsTo s fd ⟨[], ([("thing" : Str), ("kinds" : Str)] : List Str).zip [u, v]⟩ (P_is_colouring.zip [v, u]) := by
  obtain ⟨oc, od, dV, kV, doc, pm, an, cdv, ct, osl, rfl, lk, hcd, hD, hK⟩ := F.ex
  rcases hD with ⟨_, rfl⟩ | ⟨e, _⟩
  · exact .of_eq rfl
  · exact absurd rfl e
theorem cl_told (T : Fcts G.K G.mg) (k : Nat) (hk : 5 ≤ k) : Cl G P wd base k "_law_told_right" F_told := by
  obtain ⟨fd, F⟩ := T.d_told
  have fo : FnsOk G P wd base 4 (fl [("is_colouring", F_is_colouring), ("_law_is_shade", F_shade)]) kiT := by
    refine fns_key (fns_cons (cl_colouring T 4 (by decide)) (fns_cons (cl_shade T 4 (by decide)) fns_nil)) fun f F' ks us ds hf hk => ?_
    obtain ⟨fc, Fc, hc⟩ := fnd_colouring (P := P) (wd := wd) (base := base) T
    unfold kiT at hk
    split at hk
    · split at hk
      · rename_i e
        obtain ⟨rfl, rfl⟩ := e
        rw [fl_hit] at hf
        cases hf
        refine ⟨_, T.glo _ (by decide), Fc.kp, calK_imp (hc.calS (kb_colouring Fc)) fun us w => ?_⟩
        match us with
        | [] => exact .inl rfl
        | [_] => exact .inl rfl
        | _ :: _ :: _ :: _ => exact .inl rfl
        | [x, y] =>
          refine .inr ?_
          unfold kiF
          rw [g_ki, kiT_is]
          rfl
      · cases hk
    · cases hk
  exact cl_of (mkD (N := N_l_told_right) (ps := P_l_told_right) T.std F sc_l_told_right (er_l_told_right _ _) fo) hk (F.bindsN fun _ _ _ _ _ _ us hl => match us, hl with | [_, _], _ => rfl) (T.glo _ (by decide)) F.kp
theorem cl_draw (T : Fcts G.K G.mg) (hf : ∀ n, G.df n = dko G.gl m n) (hm : 0 ≤ m ∧ m < 2147483648) (k : Nat) (hk : 1 ≤ k) : Cl G P wd base k "_law_draw" (F_draw m) := by
  obtain ⟨fd, F⟩ := T.d_draw
  exact cl_of (fnD_ok len_draw (ok_draw hf hm (T.free _ (by decide)) F)) hk (F.bindsN fun _ _ _ _ _ _ us hl => match us, hl with | [_, _], _ => rfl) (T.glo _ (by decide)) F.kp
theorem cl_pick (T : Fcts G.K G.mg) (hf : ∀ n, G.df n = dko G.gl m n) (hm : 0 ≤ m ∧ m < 2147483648) (k : Nat) (hk : 2 ≤ k) : Cl G P wd base k "_law_pick" (F_pick m) := by
  obtain ⟨fd, F⟩ := T.d_pick
  exact cl_of (mkD (N := N_l_pick) (ps := P_l_pick) T.std F sc_l_pick (er_l_pick _ _) (fns_cons (cl_draw T hf hm 1 (by decide)) fns_nil)) hk (F.bindsN fun _ _ _ _ _ _ us hl => match us, hl with | [_, _], _ => rfl) (T.glo _ (by decide)) F.kp
theorem cl_tables (T : Fcts G.K G.mg) (hf : ∀ n, G.df n = dko G.gl m n) (hm : 0 ≤ m ∧ m < 2147483648) (k : Nat) (hk : 2 ≤ k) : Cl G P wd base k "_law_tables" (F_tables m) := by
  obtain ⟨fd, F⟩ := T.d_tables
  exact cl_of (mkD (N := N_l_tables) (ps := P_l_tables) T.std F sc_l_tables (er_l_tables _ _) (fns_cons (cl_draw T hf hm 1 (by decide)) fns_nil)) hk (F.bindsN fun _ _ _ _ _ _ us hl => match us, hl with | [_, _, _, _, _], _ => rfl) (T.glo _ (by decide)) F.kp
theorem cl_mk (T : Fcts G.K G.mg) (hf : ∀ n, G.df n = dko G.gl m n) (hm : 0 ≤ m ∧ m < 2147483648) (k : Nat) (hk : 3 ≤ k) : Cl G P wd base k "_law_shade" (F_mk m) := by
  obtain ⟨fd, F⟩ := T.d_mk
  exact cl_of (mkD (N := N_l_shade) (ps := P_l_shade) T.std F sc_l_shade (er_l_shade _ _) (fns_cons (cl_draw T hf hm 2 (by decide)) (fns_cons (cl_pick T hf hm 2 (by decide)) (fns_cons (cl_tables T hf hm 2 (by decide)) fns_nil)))) hk (F.bindsN fun _ _ _ _ _ _ us hl => match us, hl with | [_, _], _ => rfl) (T.glo _ (by decide)) F.kp
theorem fnd_bent (T : Fcts G.K G.mg) (hf : ∀ n, G.df n = dko G.gl m n) (hm : 0 ≤ m ∧ m < 2147483648) {fd : FuncData} (F : FunD G.K "_law_bent" "_law_bent" (defArgs s_l_bent) (defBody s_l_bent) (defScope s_l_bent) [] [] (He.ga G.K "_law_bent") fd) : ∀ j : Nat, FnD G P wd base (2 + j) (He.ga G.K "_law_bent") fd P_l_bent (F_bent m j)
  | 0 => stuckD
  | j + 1 => mkD (N := N_l_bent) (ps := P_l_bent) T.std F sc_l_bent (er_l_bent _ _) (fns_cons (cl_draw T hf hm (2 + j) (by omega)) (fns_cons (cl_pick T hf hm (2 + j) (by omega)) (fns_cons (cl_of (fnd_bent T hf hm F j) (Nat.le_refl _) (F.bindsN fun _ _ _ _ _ _ us hl => match us, hl with | [_, _, _], _ => rfl) (T.glo _ (by decide)) F.kp) fns_nil)))
theorem cl_bent (T : Fcts G.K G.mg) (hf : ∀ n, G.df n = dko G.gl m n) (hm : 0 ≤ m ∧ m < 2147483648) (k : Nat) (hk : 8 ≤ k) : Cl G P wd base k "_law_bent" (F_bent m 6) := by
  obtain ⟨fd, F⟩ := T.d_bent
  exact cl_of (fnd_bent T hf hm F 6) hk (F.bindsN fun _ _ _ _ _ _ us hl => match us, hl with | [_, _, _], _ => rfl) (T.glo _ (by decide)) F.kp
theorem fns_law (T : Fcts G.K G.mg) (hf : ∀ n, G.df n = dko G.gl m n) (hm : 0 ≤ m ∧ m < 2147483648) : FnsOk G P wd base 8 (fl (lawFns m)) ki0 :=
  fns_cons (cl_draw T hf hm 8 (by decide)) (fns_cons (cl_pick T hf hm 8 (by decide)) (fns_cons (cl_mk T hf hm 8 (by decide)) (fns_cons (cl_bent T hf hm 8 (by decide)) (fns_cons (cl_told T 8 (by decide)) fns_nil))))
end
end DL.K17
set_option linter.all false
set_option maxRecDepth 100000
set_option maxHeartbeats 4000000
namespace DL.K17
open PySem PySem.Spec PyProof.Rows L2 DL
/-! ### the law's def -/
def spLaw (K : PySem.W.Frag) : Sp := fun vs H Q _ => ∃ (a : Addr) (ns : List Int), vs = [.ref a] ∧ SqL K H a (ns.map V.int) ∧ ns.length ≤ 63 ∧ ∀ v H', v = V.bl true → Q v H'
def mkG (K : PySem.W.Frag) (mg : Str → Option Value) (p gl : Addr) (m : Int) : GC := { K := K, mg := mg, ct := fun _ => none, dk := p, gl := gl, df := dko gl m, sx := 0 }
def ρ0 : En := [.emp, .dat .deck, .emp, .emp, .emp, .emp, .emp, .emp, .emp, .emp, .emp, .emp, .emp, .emp, .emp, .emp]
def tRest (K : PySem.W.Frag) (mg : Str → Option Value) (W : WX) : TS := fun E σ H => ∃ (p gl : Addr) (m : Int), (0 ≤ m ∧ m < 2147483648) ∧ tDS (mkG K mg p gl m) W (exSs (stdG (fl (lawFns m)) ki0) (tailP b_law)) E σ H
theorem law_ok {P : Program} {wd : World} {K : PySem.W.Frag} {mg : Str → Option Value} (T : Fcts K mg) {fd : FuncData} (F : FunD K "law" "law" (defArgs s_law) (defBody s_law) (defScope s_law) [] [] (He.ga K "law") fd) (base : Heap) :
    FnG P wd K mg base (L2.CX P wd) 9 (He.ga K "law") fd P_law (spLaw K) := by
  refine fnG_of F sc_law (fun vs H Q E ⟨a, ns, e, _⟩ => by rw [e]; rfl) fun cdv A outer s H vs Q E hg hr h => ?_
  obtain ⟨fdk, FD⟩ := T.d_deck
  have D : FnOk P wd K mg base CX0 1 (He.ga K "_law_deck") fdk P_l_deck (spDeck K) := ok_deck (T.free _ (by decide)) (T.free _ (by decide)) FD
  have bD : Binds K fdk P_l_deck [] := FD.bindsN fun _ _ _ _ _ _ us hl => match us, hl with | [_], _ => rfl
  have rest : PSs (cxOf (L2.CX P wd) P wd K mg base N_law "law" (defScope s_law) (He.ga K "law") cdv A outer s H E) (defBody s_law).tail (tRest K mg (fun cls dd _ H' => E cls dd H')) := by
    refine ⟨fun pins s' σ H' D' I ⟨p, gl, m, hm, q⟩ => ?_⟩
    have c : Cxx (mkG K mg p gl m) P wd base 8 N_law (defScope s_law) true (cxOf (L2.CX P wd) P wd K mg base N_law "law" (defScope s_law) (He.ga K "law") cdv A outer s H E) (fun cls dd _ H' => E cls dd H') :=
      { K := rfl, mg := rfl, prog := rfl, w := rfl, base := rfl, gd := hg, room := hr, calm := rfl, tk := takes_of rfl rfl rfl rfl, po := passes_of rfl,
        xN := rfl, nd := sc_law.nd, sc := rfl, kf := sc_law.kind, fnl := fun _ _ => rfl }
    exact (soundSs (std_ok ⟨T.free, T.sm⟩ (fns_law T (fun n => rfl) hm)) (tailP b_law) c (er_law _ _)).run pins s' σ H' D' I q
  refine ⟨_, pss_cons (ps_set (i := 1) sc_law.nd rfl (Or.inl (by rfl)) (pe_call D (hr.mono (by decide)) rfl (T.glo _ (by decide)) FD.kp bD .nil pass0 (pa_cons (pv 0) pa_nil))) rest, ?_⟩
  obtain ⟨a, ns, rfl, hS, hl, hQ⟩ := h
  refine ⟨_, rfl, a, ns, rfl, hS, hl, fun p gl H' np ngl ex hp hgl => ?_⟩
  have ne : p ≠ gl := fun z => by rw [z, hgl] at hp; cases hp
  obtain ⟨w', e⟩ := law_eq (m := mixed ns) (S0 := .emp) (w := (ns.reverse, 0)) ⟨Int.le_refl _, Int.le_refl _, by show ns.reverse.length ≤ 63; rw [List.length_reverse]; exact hl⟩
  refine ⟨p, gl, mixed ns, mixed_lt ns, fun b => b = p ∨ b = gl, ρ0, (ns.reverse, 0), ⟨⟨.inl rfl, .inr rfl, fun b hb => ?_⟩, ⟨?_, List.nodup_nil, fun b hb => nomatch hb⟩, ⟨hp, hgl⟩⟩, ?_⟩
  · rcases hb with rfl | rfl
    · rw [hp]; simp
    · rw [hgl]; simp
  · exact ⟨trivial, ⟨_, rfl, rfl⟩, trivial, trivial, trivial, trivial, trivial, trivial, trivial, trivial, trivial, trivial, trivial, trivial, trivial, trivial, trivial⟩
  · have eb : exSs (stdG (fl (lawFns (mixed ns))) ki0) (tailP b_law) ρ0 (ns.reverse, 0) = .rt (.bl true) w' := e
    rw [eb]
    exact fun v H2 _ _ dt => hQ v H2 dt
/-! ### the head -/
theorem fcts {K : PySem.W.Frag} {h : Heap} {mg : Str → Option Value} (X : K.In h) (Gn : h.Ns mainGlobals mg) (c : He.SaysD facs defs K) (sm : SmOk K) : Fcts K mg := by
  have gl : ∀ x ∈ names, mg x = some (.ref (He.ga K x)) := fun x hx => by
    obtain ⟨i, hi⟩ := List.mem_iff_getElem?.mp (List.mem_append_left (freeB.map He.Fa.free) (List.mem_map_of_mem (f := He.Fa.glo) hx))
    exact He.glo_ok X Gn (c.fact i hi)
  have fr : ∀ x ∈ freeB, mg x = none := fun x hx => by
    obtain ⟨i, hi⟩ := List.mem_iff_getElem?.mp (List.mem_append_right (names.map He.Fa.glo) (List.mem_map_of_mem (f := He.Fa.free) hx))
    exact He.free_ok X Gn (c.fact i hi)
  exact {
    sm := sm
    free := fr
    glo := gl
    d_int := c.def_ 0 rfl
    d_row := c.def_ 1 rfl
    d_table := c.def_ 2 rfl
    d_colouring := c.def_ 3 rfl
    d_deck := c.def_ 4 rfl
    d_draw := c.def_ 5 rfl
    d_pick := c.def_ 6 rfl
    d_tables := c.def_ 7 rfl
    d_mk := c.def_ 8 rfl
    d_whole := c.def_ 9 rfl
    d_line := c.def_ 10 rfl
    d_shade := c.def_ 11 rfl
    d_bent := c.def_ 12 rfl
    d_told := c.def_ 13 rfl
    d_law := c.def_ 14 rfl
  }
end DL.K17
open PySem PySem.W PySem.Calls PyProof.Rows
theorem PySem.Challenge.cw_sheetmoves_k17_values_that_are_colouring_holds : PySem.Challenge.rw_sheetmoves_k17_values_that_are_colouring.Holds := by
  w_on; o_law
  refine HandSHeadRun.head_any (r := OpenLaw.row PySem.Challenge.rw_sheetmoves_k17_values_that_are_colouring) (q := DL.K17.qv) (H := DL.K17.hk) (ob := DL.K17.ob) (M := 2000) (loose := DL.K17.loose) (d := HandSHeadRun.topDef (OpenLaw.row PySem.Challenge.rw_sheetmoves_k17_values_that_are_colouring).prog 17) (kwd := []) DL.K17.ob_eq
    (by kernel_rfl) (fun s => by kernel_rfl) DL.K17.run (by kernel_rfl) (by kernel_rfl) (by kernel_rfl) (by rfl) (by first | assumption | decide +kernel) (by decide +kernel) ⟨rfl, rfl, rfl, rfl, rfl, by decide +kernel⟩ ?hw ?hc
  case hw => w_witness2
  case hc =>
    refine DL.walk_g (l := PySem.Challenge.rw_sheetmoves_k17_values_that_are_colouring) (n := 63) (k := 9) (x := "_law_script") (CX := fun w => L2.CX PySem.Challenge.rw_sheetmoves_k17_values_that_are_colouring.prog w) rfl (by decide) (by kernel_rfl) ⟨rfl, by decide, by decide⟩ ?F ?C
    case C =>
      rintro w H s e s' ⟨_, _, _, _, _, _, _, _, _, _, _, _, z⟩
      exact z
    intro w mg fa h Y G hmg0
    obtain ⟨K, KX, c, sm⟩ := Y
    have T := DL.K17.fcts KX G c sm
    have hmg : mg ("law" : PySem.Str) = some (.ref fa) := by
      have e : (HandSHeadRun.topDef (OpenLaw.row PySem.Challenge.rw_sheetmoves_k17_values_that_are_colouring).prog 17).name = ("law" : PySem.Str) := by kernel_rfl
      rw [← e]
      exact hmg0
    cases hmg.symm.trans (T.glo _ (by decide))
    obtain ⟨fd, F⟩ := T.d_law
    have b := L2.FunD.bindsA (ps := ["_law_script"]) F fun _ _ _ _ _ _ us hl => match us, hl with | [_], _ => rfl
    exact ⟨K, fd, DL.K17.spLaw K, KX, fun s v => b s [v] rfl, fun H a ns hl hS => ⟨a, ns, rfl, hS, hl, fun v H' e => e⟩, fun base => DL.K17.law_ok T F base⟩
