import PyProof.Rows.All
import Wide.All
import OpenK.AllK
import Wide.FinOn
import HandS.ForMost
import HandS.ForSpec
import HandS.Evl
import HandS.Steps
import HandS.Walk
import HandS.Zip
import HandS.Style
import HandS.IsInst
import HandS.TupAny
import HandS.ExcOwn
import KE.KOpsOwn
import KE.KCallOwn
import HandS.RaiseOp
import HandS.Wide
import HandS.Defaults
import HandS.Dict
import HandS.Conv
import HandS.More
import HandS.SortRule
import HandS.SortInts
import HandS.Star
import HandS.HeadHook1
import HandS.HeadHook2
import HandS.ExcIs
import HandS.ExcInit
import HandS.TryOnly
import HandS.Exc
import HandS.ExcField
import HandS.Small
import OpenK.KMeth
import HandS.HeadNt
import HandS.Text
import HandS.TupMul
import PyProof.Rows.ChunkLeaf
import HandS.Iter
import HandS.RevRange
import HandS.Zip0
import KE.GoesMore
import KE.GoesEnum
import PyProof.EnumMake
import HandS.OwnIter
import KE.KDictZip
import KE.KTurns
import HandS.IterNext
import HandS.IterVal
import HandS.HeadHook3
import HandS.NoneIn
import PyProof.FString3
import PyProof.Rows.StrIntSpec
import Wide.Num
import HandS.FStr
import HandS.StrMore
import HandS.WideBits
import HandS.ClsMeth
import KE.KStateDown
import HandS.Head0
import HandS.Head1
import HandS.Head2
import HandS.HeadEnd
import HandS.HeadWalk
import PySem.Challenge.RW_keptpictures_k29_whole_least_parse
set_option Elab.async false
set_option linter.all false
set_option maxRecDepth 100000
set_option maxHeartbeats 4000000
/-! DL: a layer of data over the hand layer: values are told as data, the heap is hidden. -/
namespace DL
open PySem L2 Evl
/-- what is held is not read: simp stays out of it -/
class Hold (α : Sort u) where
  v : α
def B1 {α : Sort u} [h : Hold (α → Prop)] : α → Prop := h.v
def B2 {α : Sort u} {β : Sort v} [h : Hold (α → β → Prop)] : α → β → Prop := h.v
/-- data: an immediate value (or a standing one), tuples, lists that no longer change, instances that no longer change, dicts that no longer change -/
inductive D where
  | v (x : V)
  | tup (xs : List D)
  | lst (xs : List D)
  | scr (xs : List D)
  | obj (C : Addr) (fs : List (Str × D))
  | dT (kvs : List (List Key × D))
  | dK (kvs : List (Key × D))
  | xc (a : Addr) (o : Option Addr) (fs : List (Str × D))
abbrev D.int (i : Int) : D := .v (.int i)
abbrev D.bl (b : Bool) : D := .v (.bl b)
abbrev D.str (s : Str) : D := .v (.str s)
abbrev D.non : D := .v .non

mutual
/-- the value stands for the datum, as far as G tells -/
inductive At (K : PySem.W.Frag) (G : Hp) : D → V → Prop
  | v (x : V) : At K G (.v x) x
  | tup {a : Addr} {xs : List V} {ds : List D} : SqT K G a xs → Ats K G ds xs → At K G (.tup ds) (.ref a)
  | lst {a : Addr} {xs : List V} {ds : List D} : G a = some (.lst xs) → Ats K G ds xs → At K G (.lst ds) (.ref a)
  | scr {a : Addr} {xs : List V} {ds : List D} : SqL K G a xs → Ats K G ds xs → At K G (.scr ds) (.ref a)
  | obj {a C dx : Addr} {xs : List (Str × V)} {ds : List (Str × D)} : G a = some (.ins C dx xs) → AtF K G ds xs → At K G (.obj C ds) (.ref a)
  | dT {a : Addr} {xs : List (List Key × V)} {ds : List (List Key × D)} : G a = some (.dT xs) → AtT K G ds xs → At K G (.dT ds) (.ref a)
  | dK {a : Addr} {xs : List (Key × V)} {ds : List (Key × D)} : G a = some (.dK xs) → AtK K G ds xs → At K G (.dK ds) (.ref a)
  | xc {a : Addr} {o : Option Addr} {xs : List (Str × V)} {ds : List (Str × D)} : ((o = none ∧ xs = []) ∨ ∃ dd, o = some dd ∧ G dd = some (.xd xs)) → AtF K G ds xs → At K G (.xc a o ds) (.ref a)
inductive Ats (K : PySem.W.Frag) (G : Hp) : List D → List V → Prop
  | nil : Ats K G [] []
  | cons {d : D} {v : V} {ds : List D} {vs : List V} : At K G d v → Ats K G ds vs → Ats K G (d :: ds) (v :: vs)
inductive AtF (K : PySem.W.Frag) (G : Hp) : List (Str × D) → List (Str × V) → Prop
  | nil : AtF K G [] []
  | cons {f : Str} {d : D} {v : V} {ds : List (Str × D)} {vs : List (Str × V)} : At K G d v → AtF K G ds vs → AtF K G ((f, d) :: ds) ((f, v) :: vs)
inductive AtT (K : PySem.W.Frag) (G : Hp) : List (List Key × D) → List (List Key × V) → Prop
  | nil : AtT K G [] []
  | cons {k : List Key} {d : D} {v : V} {ds : List (List Key × D)} {vs : List (List Key × V)} : At K G d v → AtT K G ds vs → AtT K G ((k, d) :: ds) ((k, v) :: vs)
inductive AtK (K : PySem.W.Frag) (G : Hp) : List (Key × D) → List (Key × V) → Prop
  | nil : AtK K G [] []
  | cons {k : Key} {d : D} {v : V} {ds : List (Key × D)} {vs : List (Key × V)} : At K G d v → AtK K G ds vs → AtK K G ((k, d) :: ds) ((k, v) :: vs)
end

section
variable {K : PySem.W.Frag} {G G' : Hp}
mutual
theorem At.mono (e : Ex G G') : ∀ {d : D} {v : V}, At K G d v → At K G' d v
  | _, _, .v x => .v x
  | _, _, .tup h t => .tup (ex_t e h) (Ats.mono e t)
  | _, _, .lst h t => .lst (e _ _ h) (Ats.mono e t)
  | _, _, .scr h t => .scr (ex_l e h) (Ats.mono e t)
  | _, _, .obj h t => .obj (e _ _ h) (AtF.mono e t)
  | _, _, .dT h t => .dT (e _ _ h) (AtT.mono e t)
  | _, _, .dK h t => .dK (e _ _ h) (AtK.mono e t)
  | _, _, .xc h t => .xc (h.imp id fun ⟨dd, q, z⟩ => ⟨dd, q, e _ _ z⟩) (AtF.mono e t)
theorem Ats.mono (e : Ex G G') : ∀ {d : List D} {v : List V}, Ats K G d v → Ats K G' d v
  | _, _, .nil => .nil
  | _, _, .cons h t => .cons (At.mono e h) (Ats.mono e t)
theorem AtF.mono (e : Ex G G') : ∀ {d : List (Str × D)} {v : List (Str × V)}, AtF K G d v → AtF K G' d v
  | _, _, .nil => .nil
  | _, _, .cons h t => .cons (At.mono e h) (AtF.mono e t)
theorem AtT.mono (e : Ex G G') : ∀ {d : List (List Key × D)} {v : List (List Key × V)}, AtT K G d v → AtT K G' d v
  | _, _, .nil => .nil
  | _, _, .cons h t => .cons (At.mono e h) (AtT.mono e t)
theorem AtK.mono (e : Ex G G') : ∀ {d : List (Key × D)} {v : List (Key × V)}, AtK K G d v → AtK K G' d v
  | _, _, .nil => .nil
  | _, _, .cons h t => .cons (At.mono e h) (AtK.mono e t)
end
theorem Ats.length : ∀ {ds : List D} {vs : List V}, Ats K G ds vs → ds.length = vs.length
  | _, _, .nil => rfl
  | _, _, .cons _ t => by simp [Ats.length t]
theorem Ats.get : ∀ {ds : List D} {vs : List V} {i : Nat} {d : D}, Ats K G ds vs → ds[i]? = some d → ∃ v, vs[i]? = some v ∧ At K G d v
  | _, _, _, _, .nil, e => by simp at e
  | _, _, 0, _, .cons h _, e => by simp at e; subst e; exact ⟨_, rfl, h⟩
  | _, _, i + 1, _, .cons _ t, e => by
    obtain ⟨v, h1, h2⟩ := Ats.get (i := i) t (by simpa using e)
    exact ⟨v, by simpa using h1, h2⟩
theorem Ats.got : ∀ {ds : List D} {vs : List V} {i : Nat} {v : V}, Ats K G ds vs → vs[i]? = some v → ∃ d, ds[i]? = some d ∧ At K G d v
  | _, _, _, _, .nil, e => by simp at e
  | _, _, 0, _, .cons h _, e => by simp at e; subst e; exact ⟨_, rfl, h⟩
  | _, _, i + 1, _, .cons _ t, e => by
    obtain ⟨v, h1, h2⟩ := Ats.got (i := i) t (by simpa using e)
    exact ⟨v, by simpa using h1, h2⟩
theorem Ats.append : ∀ {ds es : List D} {vs us : List V}, Ats K G ds vs → Ats K G es us → Ats K G (ds ++ es) (vs ++ us)
  | _, _, _, _, .nil, s => s
  | _, _, _, _, .cons h t, s => .cons h (Ats.append t s)
theorem Ats.set {d : D} {v : V} (h : At K G d v) : ∀ {ds : List D} {vs : List V} (i : Nat), Ats K G ds vs → Ats K G (ds.set i d) (vs.set i v)
  | _, _, _, .nil => .nil
  | _, _, 0, .cons _ t => .cons h t
  | _, _, i + 1, .cons g t => .cons g (Ats.set h i t)
theorem Ats.take : ∀ {ds : List D} {vs : List V} (n : Nat), Ats K G ds vs → Ats K G (ds.take n) (vs.take n)
  | _, _, 0, _ => by simp; exact .nil
  | _, _, _ + 1, .nil => .nil
  | _, _, n + 1, .cons h t => .cons h (Ats.take n t)
theorem Ats.drop : ∀ {ds : List D} {vs : List V} (n : Nat), Ats K G ds vs → Ats K G (ds.drop n) (vs.drop n)
  | _, _, 0, h => h
  | _, _, _ + 1, .nil => .nil
  | _, _, n + 1, .cons _ t => Ats.drop n t
theorem AtF.look {f : Str} : ∀ {ds : List (Str × D)} {vs : List (Str × V)} {d : D}, AtF K G ds vs → ds.lookup f = some d → ∃ v, vs.lookup f = some v ∧ At K G d v
  | _, _, _, .nil, e => by simp at e
  | (g, d1) :: ds, (_, v1) :: vs, d, .cons h t, e => by
    rw [List.lookup_cons] at e ⊢
    cases q : (f == g) with
    | true =>
      rw [q] at e
      cases e
      exact ⟨_, rfl, h⟩
    | false =>
      rw [q] at e
      exact AtF.look t e
theorem AtF.none {f : Str} : ∀ {ds : List (Str × D)} {vs : List (Str × V)}, AtF K G ds vs → ds.lookup f = none → vs.lookup f = none
  | _, _, .nil, _ => rfl
  | (g, d1) :: ds, (_, v1) :: vs, .cons h t, e => by
    rw [List.lookup_cons] at e ⊢
    cases q : (f == g) with
    | true =>
      rw [q] at e
      cases e
    | false =>
      rw [q] at e
      exact AtF.none t e
theorem AtF.length : ∀ {ds : List (Str × D)} {vs : List (Str × V)}, AtF K G ds vs → ds.length = vs.length
  | _, _, .nil => rfl
  | _, _, .cons _ t => by simp [AtF.length t]
/-- a field is put, as the layer's putF does -/
def putD (f : Str) (d : D) : List (Str × D) → List (Str × D)
  | [] => [(f, d)]
  | (g, e) :: r => if g = f then (g, d) :: r else (g, e) :: putD f d r
end

/-- what a local name may hold: a datum that stands for good, a datum that is lent, a thing that changes (by its number) -/
inductive W where
  | d (x : D)
  | b (x : D)
  | m (k : Nat)
/-- things that change -/
inductive MO where
  | lst (ds : List D)
  | ins (C : Addr) (fs : List (Str × D))
  | dT (kvs : List (List Key × D))
  | dK (kvs : List (Key × D))
  | dead
abbrev Rho := List (Option W)
abbrev Mu := List MO
structure Wd where
  G : Hp
  B : Hp
  H : Hp
  α : List Addr

def MOk (K : PySem.W.Frag) (w : Wd) (a : Addr) : MO → Prop
  | .lst ds => w.B a = none ∧ ∃ xs, w.H a = some (.lst xs) ∧ Ats K w.G ds xs
  | .ins C fs => w.B a = none ∧ ∃ dx xs, w.H a = some (.ins C dx xs) ∧ AtF K w.G fs xs
  | .dT kvs => w.B a = none ∧ ∃ xs, w.H a = some (.dT xs) ∧ AtT K w.G kvs xs
  | .dK kvs => w.B a = none ∧ ∃ xs, w.H a = some (.dK xs) ∧ AtK K w.G kvs xs
  | .dead => True
structure WOk (K : PySem.W.Frag) (w : Wd) (μ : Mu) : Prop where
  gb : Ex w.G w.B
  bh : Ex w.B w.H
  nd : w.α.Nodup
  len : w.α.length = μ.length
  mu : ∀ (k : Nat) (a : Addr) (o : MO), w.α[k]? = some a → μ[k]? = some o → MOk K w a o
  has : ∀ a ∈ w.α, w.H a ≠ none
def WAt (K : PySem.W.Frag) (w : Wd) : W → V → Prop
  | .d x, v => At K w.G x v
  | .b x, v => At K w.B x v
  | .m k, v => ∃ a, w.α[k]? = some a ∧ v = .ref a
structure Sto (K : PySem.W.Frag) (w : Wd) (σ : L2.St) (ρ : Rho) : Prop where
  len : σ.length = ρ.length
  at' : ∀ (i : Nat) (x : W), ρ[i]? = some (some x) → ∃ v, σ[i]? = some (some v) ∧ WAt K w x v
/-- a tuple stands there -/
def IsT (o : Option HO) : Prop := ∃ xs, o = some (.tup xs)
structure Step (w w' : Wd) : Prop where
  g : Ex w.G w'.G
  b : Ex w.B w'.B
  al : ∃ l, w'.α = w.α ++ l ∧ ∀ a ∈ l, w.H a = none
  fr : ∀ b o, b ∉ w.α → w.H b = some o → w'.H b = some o
  gn : ∀ b, w'.G b ≠ none → w.G b ≠ none ∨ w.H b = none ∨ b ∈ w.α ∨ IsT (w.H b)
  bn : ∀ b, w'.B b ≠ none → w.B b ≠ none ∨ w.H b = none ∨ b ∈ w.α ∨ IsT (w.H b)
  pr : ∀ b, w'.H b = none → w.H b = none

section
variable {K : PySem.W.Frag} {w w1 w2 w' : Wd} {σ : L2.St} {ρ : Rho} {μ : Mu}
theorem Step.refl (w : Wd) : Step w w := ⟨.refl _, .refl _, ⟨[], by simp, by simp⟩, fun _ _ _ h => h, fun _ h => .inl h, fun _ h => .inl h, fun _ h => h⟩
theorem Step.sub (s : Step w w') {a : Addr} (h : a ∈ w.α) : a ∈ w'.α := by
  obtain ⟨l, e, _⟩ := s.al
  rw [e]
  exact List.mem_append_left _ h
theorem Step.trans (s : Step w w1) (t : Step w1 w2) : Step w w2 := by
  obtain ⟨l1, e1, n1⟩ := s.al
  obtain ⟨l2, e2, n2⟩ := t.al
  have back : ∀ b, b ∈ w1.α → b ∈ w.α ∨ w.H b = none := fun b h => by
    rw [e1] at h
    rcases List.mem_append.mp h with h | h
    · exact .inl h
    · exact .inr (n1 b h)
  have tup : ∀ {A : Prop} b, IsT (w1.H b) → A ∨ w.H b = none ∨ b ∈ w.α ∨ IsT (w.H b) := fun {A} b h => by
    by_cases q : w.H b = none
    · exact .inr (.inl q)
    · by_cases z : b ∈ w.α
      · exact .inr (.inr (.inl z))
      · cases e : w.H b with
        | none => exact absurd e q
        | some o =>
          obtain ⟨xs, h⟩ := h
          rw [s.fr b o z e] at h
          cases h
          exact .inr (.inr (.inr ⟨xs, rfl⟩))
  refine ⟨s.g.trans t.g, s.b.trans t.b, ⟨l1 ++ l2, by rw [e2, e1, List.append_assoc], fun a h => ?_⟩, fun b o hb h => ?_, fun b h => ?_, fun b h => ?_, fun b h => s.pr b (t.pr b h)⟩
  · rcases List.mem_append.mp h with h | h
    · exact n1 a h
    · exact s.pr a (n2 a h)
  · refine t.fr b o (fun z => ?_) (s.fr b o hb h)
    rcases back b z with z | z
    · exact hb z
    · rw [z] at h
      cases h
  · rcases t.gn b h with h | h | h | h
    · exact s.gn b h
    · exact .inr (.inl (s.pr b h))
    · rcases back b h with h | h
      · exact .inr (.inr (.inl h))
      · exact .inr (.inl h)
    · exact tup b h
  · rcases t.bn b h with h | h | h | h
    · exact s.bn b h
    · exact .inr (.inl (s.pr b h))
    · rcases back b h with h | h
      · exact .inr (.inr (.inl h))
      · exact .inr (.inl h)
    · exact tup b h
theorem Step.al? (s : Step w w') {k : Nat} {a : Addr} (h : w.α[k]? = some a) : w'.α[k]? = some a := by
  obtain ⟨l, e, _⟩ := s.al
  rw [e, List.getElem?_append_left (List.getElem?_eq_some_iff.mp h).1]
  exact h
theorem WAt.step {x : W} {v : V} (s : Step w w') (h : WAt K w x v) : WAt K w' x v := by
  cases x with
  | d x => exact At.mono s.g h
  | b x => exact At.mono s.b h
  | m k =>
    obtain ⟨a, e, q⟩ := h
    exact ⟨a, s.al? e, q⟩
theorem Sto.step (s : Step w w') (h : Sto K w σ ρ) : Sto K w' σ ρ := ⟨h.len, fun i x e => by
  obtain ⟨v, e1, q⟩ := h.at' i x e
  exact ⟨v, e1, q.step s⟩⟩
theorem Sto.set {i : Nat} {x : W} {v : V} (h : Sto K w σ ρ) (q : WAt K w x v) : Sto K w (σ.set i (some v)) (ρ.set i (some x)) := ⟨by simp [h.len], fun j y e => by
  by_cases hj : i = j
  · subst hj
    by_cases hl : i < ρ.length
    · rw [List.getElem?_set_self hl] at e
      cases e
      exact ⟨v, List.getElem?_set_self (by rw [h.len]; exact hl), q⟩
    · rw [List.getElem?_eq_none (by simp; omega)] at e
      cases e
  · rw [List.getElem?_set_ne hj] at e
    obtain ⟨u, e1, q1⟩ := h.at' j y e
    exact ⟨u, by rw [List.getElem?_set_ne hj]; exact e1, q1⟩⟩
/-- a new thing that never changes -/
def Wd.new (w : Wd) (p : Addr) (o : HO) : Wd := ⟨upd w.G p o, upd w.B p o, upd w.H p o, w.α⟩
theorem none_back {G H : Hp} {p : Addr} (e : Ex G H) (h : H p = none) : G p = none := fresh_back e h
theorem MOk.step_ne {w w' : Wd} {a : Addr} {o : MO} (g : Ex w.G w'.G) (hb : w.B a = none → w'.B a = none) (hh : w'.H a = w.H a) (h : MOk K w a o) : MOk K w' a o := by
  cases o with
  | lst ds =>
    obtain ⟨h1, xs, h2, h3⟩ := h
    exact ⟨hb h1, xs, by rw [hh]; exact h2, h3.mono g⟩
  | ins C fs =>
    obtain ⟨h1, dx, xs, h2, h3⟩ := h
    exact ⟨hb h1, dx, xs, by rw [hh]; exact h2, h3.mono g⟩
  | dT kvs =>
    obtain ⟨h1, xs, h2, h3⟩ := h
    exact ⟨hb h1, xs, by rw [hh]; exact h2, h3.mono g⟩
  | dK kvs =>
    obtain ⟨h1, xs, h2, h3⟩ := h
    exact ⟨hb h1, xs, by rw [hh]; exact h2, h3.mono g⟩
  | dead => trivial
theorem upd_ex {G H : Hp} {p : Addr} {o : HO} (e : Ex G H) : Ex (upd G p o) (upd H p o) := fun b u h => by
  unfold upd at *
  split
  · rename_i q
    rw [if_pos q] at h
    exact h
  · rename_i q
    rw [if_neg q] at h
    exact e b u h
theorem WOk.new {p : Addr} {o : HO} (ok : WOk K w μ) (hp : w.H p = none) : WOk K (w.new p o) μ := by
  have np : ∀ a ∈ w.α, a ≠ p := fun a h z => ok.has a h (by rw [z]; exact hp)
  refine ⟨upd_ex ok.gb, upd_ex ok.bh, ok.nd, ok.len, fun k a u h1 h2 => ?_, fun a h => ?_⟩
  · have na := np a (List.mem_of_getElem? h1)
    exact MOk.step_ne (Ex.new (none_back (ok.gb.trans ok.bh) hp)) (fun z => by show upd w.B p o a = none; rw [upd_ne na]; exact z) (by show upd w.H p o a = _; rw [upd_ne na]) (ok.mu k a u h1 h2)
  · show upd w.H p o a ≠ none
    rw [upd_ne (np a h)]
    exact ok.has a h
theorem Step.new {p : Addr} {o : HO} (ok : WOk K w μ) (hp : w.H p = none) : Step w (w.new p o) := by
  refine ⟨Ex.new (none_back (ok.gb.trans ok.bh) hp), Ex.new (none_back ok.bh hp), ⟨[], by simp [Wd.new], by simp⟩, fun b u _ h => ?_, fun b h => ?_, fun b h => ?_, fun b h => ?_⟩
  · show upd w.H p o b = _
    rw [upd_ne (ne_of_none h hp)]
    exact h
  · by_cases e : b = p
    · exact .inr (.inl (by rw [e]; exact hp))
    · refine .inl (fun z => h ?_)
      show upd w.G p o b = none
      rw [upd_ne e]
      exact z
  · by_cases e : b = p
    · exact .inr (.inl (by rw [e]; exact hp))
    · refine .inl (fun z => h ?_)
      show upd w.B p o b = none
      rw [upd_ne e]
      exact z
  · by_cases e : b = p
    · rw [e]
      exact hp
    · have h' : upd w.H p o b = none := h
      rw [upd_ne e] at h'
      exact h'
/-- a new thing that may change -/
def Wd.newM (w : Wd) (p : Addr) (o : HO) : Wd := ⟨w.G, w.B, upd w.H p o, w.α ++ [p]⟩
theorem WOk.newM {p : Addr} {o : HO} {u : MO} (ok : WOk K w μ) (hp : w.H p = none) (hu : MOk K (w.newM p o) p u) : WOk K (w.newM p o) (μ ++ [u]) := by
  have np : ∀ a ∈ w.α, a ≠ p := fun a h z => ok.has a h (by rw [z]; exact hp)
  refine ⟨ok.gb, fun b q h => ?_, ?_, by simp [Wd.newM, ok.len], fun k a z h1 h2 => ?_, fun a h => ?_⟩
  · show upd w.H p o b = _
    have := ok.bh b q h
    rw [upd_ne (ne_of_none this hp)]
    exact this
  · show (w.α ++ [p]).Nodup
    rw [List.nodup_append]
    refine ⟨ok.nd, by simp, fun a ha b hb => ?_⟩
    rw [List.mem_singleton] at hb
    rw [hb]
    exact np a ha
  · have h1' : (w.α ++ [p])[k]? = some a := h1
    by_cases hk : k < w.α.length
    · rw [List.getElem?_append_left hk] at h1'
      rw [List.getElem?_append_left (by rw [← ok.len]; exact hk)] at h2
      have na := np a (List.mem_of_getElem? h1')
      exact MOk.step_ne (w := w) (.refl _) id (by show upd w.H p o a = _; rw [upd_ne na]) (ok.mu k a z h1' h2)
    · have ek : k = w.α.length := by
        have := (List.getElem?_eq_some_iff.mp h1').1
        simp at this
        omega
      subst ek
      simp at h1'
      rw [ok.len] at h2
      simp at h2
      subst h1' h2
      exact hu
  · show upd w.H p o a ≠ none
    rcases List.mem_append.mp (show a ∈ w.α ++ [p] from h) with h | h
    · rw [upd_ne (np a h)]
      exact ok.has a h
    · rw [List.mem_singleton.mp h, upd_same]
      simp
theorem Step.newM {p : Addr} {o : HO} (hp : w.H p = none) : Step w (w.newM p o) := by
  refine ⟨.refl _, .refl _, ⟨[p], rfl, fun a h => by rw [List.mem_singleton.mp h]; exact hp⟩, fun b u _ h => ?_, fun b h => .inl h, fun b h => .inl h, fun b h => ?_⟩
  · show upd w.H p o b = _
    rw [upd_ne (ne_of_none h hp)]
    exact h
  · by_cases e : b = p
    · rw [e]
      exact hp
    · have h' : upd w.H p o b = none := h
      rw [upd_ne e] at h'
      exact h'
/-- a thing that changes is changed -/
def Wd.put (w : Wd) (p : Addr) (o : HO) : Wd := ⟨w.G, w.B, upd w.H p o, w.α⟩
theorem WOk.put {p : Addr} {k : Nat} {o : HO} {u u' : MO} (ok : WOk K w μ) (hk : w.α[k]? = some p) (hm : μ[k]? = some u) (hb : w.B p = none) (hu : MOk K (w.put p o) p u') : WOk K (w.put p o) (μ.set k u') := by
  refine ⟨ok.gb, fun b q h => ?_, ok.nd, by simp [Wd.put, ok.len], fun j a z h1 h2 => ?_, fun a h => ?_⟩
  · show upd w.H p o b = _
    rw [upd_ne (ne_of_none h hb)]
    exact ok.bh b q h
  · have h1' : w.α[j]? = some a := h1
    by_cases hj : k = j
    · subst hj
      rw [h1'] at hk
      cases hk
      rw [List.getElem?_set_self (by rw [← ok.len]; exact (List.getElem?_eq_some_iff.mp h1').1)] at h2
      cases h2
      exact hu
    · rw [List.getElem?_set_ne hj] at h2
      have na : a ≠ p := fun e => hj (by
        subst e
        obtain ⟨l1, e1⟩ := List.getElem?_eq_some_iff.mp hk
        obtain ⟨l2, e2⟩ := List.getElem?_eq_some_iff.mp h1'
        exact (List.getElem_inj ok.nd).mp (e1.trans e2.symm))
      exact MOk.step_ne (w := w) (.refl _) id (by show upd w.H p o a = _; rw [upd_ne na]) (ok.mu j a z h1' h2)
  · show upd w.H p o a ≠ none
    by_cases e : a = p
    · rw [e, upd_same]
      simp
    · rw [upd_ne e]
      exact ok.has a h
theorem Step.put {p : Addr} {k : Nat} {o : HO} (hk : w.α[k]? = some p) : Step w (w.put p o) := by
  have hp : p ∈ w.α := List.mem_of_getElem? hk
  refine ⟨.refl _, .refl _, ⟨[], by simp [Wd.put], by simp⟩, fun b u hb h => ?_, fun b h => .inl h, fun b h => .inl h, fun b h => ?_⟩
  · show upd w.H p o b = _
    rw [upd_ne (fun e => hb (by rw [e]; exact hp))]
    exact h
  · by_cases e : b = p
    · have h' : upd w.H p o b = none := h
      rw [e, upd_same] at h'
      cases h'
    · have h' : upd w.H p o b = none := h
      rw [upd_ne e] at h'
      exact h'
end
end DL

set_option Elab.async false
set_option linter.all false
set_option maxRecDepth 100000
set_option maxHeartbeats 4000000
/-! DL, part two: the judgements, expressions, statements, loops, comprehensions. -/
namespace DL
open PySem L2 Evl

section
variable {K : PySem.W.Frag} {w w1 w2 w' : Wd} {σ : L2.St} {ρ : Rho} {μ : Mu}
/-- a new thing that is lent -/
def Wd.newB (w : Wd) (p : Addr) (o : HO) : Wd := ⟨w.G, upd w.B p o, upd w.H p o, w.α⟩
theorem WOk.newB {p : Addr} {o : HO} (ok : WOk K w μ) (hp : w.H p = none) : WOk K (w.newB p o) μ := by
  have np : ∀ a ∈ w.α, a ≠ p := fun a h z => ok.has a h (by rw [z]; exact hp)
  refine ⟨ok.gb.trans (Ex.new (none_back ok.bh hp)), upd_ex ok.bh, ok.nd, ok.len, fun k a u h1 h2 => ?_, fun a h => ?_⟩
  · have na := np a (List.mem_of_getElem? h1)
    exact MOk.step_ne (w := w) (.refl _) (fun z => by show upd w.B p o a = none; rw [upd_ne na]; exact z) (by show upd w.H p o a = _; rw [upd_ne na]) (ok.mu k a u h1 h2)
  · show upd w.H p o a ≠ none
    rw [upd_ne (np a h)]
    exact ok.has a h
theorem Step.newB {p : Addr} {o : HO} (ok : WOk K w μ) (hp : w.H p = none) : Step w (w.newB p o) := by
  refine ⟨.refl _, Ex.new (none_back ok.bh hp), ⟨[], by simp [Wd.newB], by simp⟩, fun b u _ h => ?_, fun b h => .inl h, fun b h => ?_, fun b h => ?_⟩
  · show upd w.H p o b = _
    rw [upd_ne (ne_of_none h hp)]
    exact h
  · by_cases e : b = p
    · exact .inr (.inl (by rw [e]; exact hp))
    · refine .inl (fun z => h ?_)
      show upd w.B p o b = none
      rw [upd_ne e]
      exact z
  · by_cases e : b = p
    · rw [e]
      exact hp
    · have h' : upd w.H p o b = none := h
      rw [upd_ne e] at h'
      exact h'
end

abbrev wi (i : Int) : W := .d (.v (.int i))
abbrev wb (b : Bool) : W := .d (.v (.bl b))
abbrev ws (s : Str) : W := .d (.v (.str s))
abbrev wn : W := .d (.v .non)
/-- an item of a lent thing -/
def lend : D → W
  | .v x => .d (.v x)
  | .tup xs => .b (.tup xs)
  | .lst xs => .b (.lst xs)
  | .scr xs => .b (.scr xs)
  | .obj C fs => .b (.obj C fs)
  | .dT k => .b (.dT k)
  | .dK k => .b (.dK k)
  | .xc a o k => .b (.xc a o k)
theorem WAt.imm {K : PySem.W.Frag} {w : Wd} {x : V} : WAt K w (.d (.v x)) x := At.v x
theorem WAt.dat {K : PySem.W.Frag} {w : Wd} {x : D} {v : V} (h : At K w.G x v) : WAt K w (.d x) v := h
theorem WAt.lent {K : PySem.W.Frag} {w : Wd} {x : D} {v : V} (h : At K w.B x v) : WAt K w (.b x) v := h
theorem WAt.lend {K : PySem.W.Frag} {w : Wd} {x : D} {v : V} (h : At K w.B x v) : WAt K w (lend x) v := by
  cases h with
  | v => exact At.v _
  | tup a b => exact At.tup a b
  | lst a b => exact At.lst a b
  | scr a b => exact At.scr a b
  | obj a b => exact At.obj a b
  | dT a b => exact At.dT a b
  | dK a b => exact At.dK a b
  | xc a b => exact At.xc a b

abbrev PN := W → Mu → Prop
abbrev PX := Addr → List (Str × D) → Mu → Prop
abbrev DE := Rho → Mu → PN → PX → Prop
abbrev DTe := Rho → Mu → (Bool → Mu → Prop) → PX → Prop
abbrev DAr := Rho → Mu → (List W → Mu → Prop) → PX → Prop

def XAt (K : PySem.W.Frag) (w : Wd) (d : Option Addr) (fs : List (Str × D)) : Prop := (d = none ∧ fs = []) ∨ ∃ dd xs, d = some dd ∧ w.G dd = some (.xd xs) ∧ AtF K w.G fs xs
def QN (K : PySem.W.Frag) (w : Wd) (P : PN) (Q : VK) : Prop := ∀ w' μ' x v, Step w w' → WOk K w' μ' → WAt K w' x v → P x μ' → Q v w'.H
def QX (K : PySem.W.Frag) (Wx : WX) (w : Wd) (σ : L2.St) (R : PX) : Prop := ∀ w' μ' C d fs, Step w w' → WOk K w' μ' → XAt K w' d fs → R C fs μ' → Wx (.ref C) d σ w'.H
def QT (K : PySem.W.Frag) (w : Wd) (P : Bool → Mu → Prop) (Q : Bool → Hp → Prop) : Prop := ∀ w' μ' b, Step w w' → WOk K w' μ' → P b μ' → Q b w'.H
inductive WAts (K : PySem.W.Frag) (w : Wd) : List W → List V → Prop
  | nil : WAts K w [] []
  | cons {x : W} {v : V} {xs : List W} {vs : List V} : WAt K w x v → WAts K w xs vs → WAts K w (x :: xs) (v :: vs)
def QA (K : PySem.W.Frag) (w : Wd) (P : List W → Mu → Prop) (Q : List V → Hp → Prop) : Prop := ∀ w' μ' xs vs, Step w w' → WOk K w' μ' → WAts K w' xs vs → P xs μ' → Q vs w'.H
def Sim (K : PySem.W.Frag) (Wx : WX) (te : TE) (de : DE) : Prop := ∀ {w σ ρ μ P R}, WOk K w μ → Sto K w σ ρ → de ρ μ P R → ∀ {Q}, QN K w P Q → QX K Wx w σ R → te σ w.H Q
def SimT (K : PySem.W.Frag) (Wx : WX) (te : TT) (de : DTe) : Prop := ∀ {w σ ρ μ P R}, WOk K w μ → Sto K w σ ρ → de ρ μ P R → ∀ {Q}, QT K w P Q → QX K Wx w σ R → te σ w.H Q
def SimA (K : PySem.W.Frag) (Wx : WX) (te : TA) (de : DAr) : Prop := ∀ {w σ ρ μ P R}, WOk K w μ → Sto K w σ ρ → de ρ μ P R → ∀ {Q}, QA K w P Q → QX K Wx w σ R → te σ w.H Q

section
variable {K : PySem.W.Frag} {Wx : WX} {w w1 w2 w' : Wd} {σ : L2.St} {ρ : Rho} {μ : Mu}
theorem WAts.step (s : Step w w') : ∀ {xs : List W} {vs : List V}, WAts K w xs vs → WAts K w' xs vs
  | _, _, .nil => .nil
  | _, _, .cons h t => .cons (h.step s) (WAts.step s t)
theorem QN.step {P : PN} {Q : VK} (s : Step w w') (h : QN K w P Q) : QN K w' P Q := fun w2 μ' x v t => h w2 μ' x v (s.trans t)
theorem QX.step {R : PX} (s : Step w w') (h : QX K Wx w σ R) : QX K Wx w' σ R := fun w2 μ' C d fs t => h w2 μ' C d fs (s.trans t)
theorem QT.step {P : Bool → Mu → Prop} {Q : Bool → Hp → Prop} (s : Step w w') (h : QT K w P Q) : QT K w' P Q := fun w2 μ' b t => h w2 μ' b (s.trans t)
theorem QA.step {P : List W → Mu → Prop} {Q : List V → Hp → Prop} (s : Step w w') (h : QA K w P Q) : QA K w' P Q := fun w2 μ' x v t => h w2 μ' x v (s.trans t)
theorem QN.now {P : PN} {Q : VK} {x : W} {v : V} (h : QN K w P Q) (ok : WOk K w μ) (a : WAt K w x v) (p : P x μ) : Q v w.H := h w μ x v (.refl _) ok a p

/-! ### expressions -/
def dVar (i : Nat) : DE := fun ρ μ P _ => ∃ x, ρ[i]? = some (some x) ∧ P x μ
theorem sim_var {i : Nat} : Sim K Wx (tVar i) (dVar i) := fun ok st h _ qn _ => by
  obtain ⟨x, e, p⟩ := h
  obtain ⟨v, e1, a⟩ := st.at' i x e
  exact ⟨v, e1, qn.now ok a p⟩
def dC (x : V) : DE := fun _ μ P _ => P (.d (.v x)) μ
theorem sim_c {x : V} : Sim K Wx (tC x) (dC x) := fun ok st h _ qn _ => qn.now ok .imm h

abbrev D2 := W → W → Mu → PN → PX → Prop
def Op2 (K : PySem.W.Frag) (Wx : WX) (r : R2) (dr : D2) : Prop := ∀ {w σ μ x y v u P R}, WOk K w μ → WAt K w x v → WAt K w y u → dr x y μ P R → ∀ {Q}, QN K w P Q → QX K Wx w σ R → r v u w.H Q
def dOp (dr : D2) (da db : DE) : DE := fun ρ μ P R => da ρ μ (fun x μ1 => db ρ μ1 (fun y μ2 => dr x y μ2 P R) R) R
theorem sim_op {r : R2} {dr : D2} {ta tb : TE} {da db : DE} (hr : Op2 K Wx r dr) (ha : Sim K Wx ta da) (hb : Sim K Wx tb db) : Sim K Wx (tOp r ta tb) (dOp dr da db) := fun {w σ ρ μ P R} ok st h {Q} qn qx =>
  ha ok st h (fun w1 μ1 x v s1 ok1 hx h1 => hb ok1 (st.step s1) h1 (fun w2 μ2 y u s2 ok2 hy h2 => hr ok2 (hx.step s2) hy h2 (qn.step (s1.trans s2)) (qx.step (s1.trans s2))) (qx.step s1)) qx
/-- two ints -/
def dI (C : Int → Int → Prop) (f : Int → Int → V) : D2 := fun x y μ P _ => ∃ i j, x = wi i ∧ y = wi j ∧ C i j ∧ P (.d (.v (f i j))) μ
theorem op2_I {C : Int → Int → Prop} {f : Int → Int → V} : Op2 K Wx (rI C f) (dI C f) := fun ok hx hy h _ qn _ => by
  obtain ⟨i, j, rfl, rfl, c, p⟩ := h
  cases hx
  cases hy
  exact ⟨i, j, rfl, rfl, c, qn.now ok .imm p⟩
def dI0 (f : Int → Int → V) : D2 := fun x y μ P _ => ∃ i j, x = wi i ∧ y = wi j ∧ P (.d (.v (f i j))) μ
theorem op2_I0 {f : Int → Int → V} : Op2 K Wx (rI0 f) (dI0 f) := fun ok hx hy h _ qn _ => by
  obtain ⟨i, j, rfl, rfl, p⟩ := h
  cases hx
  cases hy
  exact ⟨i, j, rfl, rfl, qn.now ok .imm p⟩
/-- == , != of immediate values -/
def dEq : D2 := fun x y μ P _ => ∃ u v, x = .d (.v u) ∧ y = .d (.v v) ∧ scal u v = true ∧ P (wb (decide (u = v))) μ
def dNe : D2 := fun x y μ P _ => ∃ u v, x = .d (.v u) ∧ y = .d (.v v) ∧ scal u v = true ∧ P (wb (!decide (u = v))) μ
theorem op2_eq : Op2 K Wx rEq dEq := fun ok hx hy h _ qn _ => by
  obtain ⟨u, v, rfl, rfl, c, p⟩ := h
  cases hx
  cases hy
  exact ⟨c, qn.now ok .imm p⟩
theorem op2_ne : Op2 K Wx rNe dNe := fun ok hx hy h _ qn _ => by
  obtain ⟨u, v, rfl, rfl, c, p⟩ := h
  cases hx
  cases hy
  exact ⟨c, qn.now ok .imm p⟩
/-- one of two rules -/
def dOr (d d' : D2) : D2 := fun x y μ P R => d x y μ P R ∨ d' x y μ P R
/-- one place -/
abbrev D1 := W → Mu → PN → PX → Prop
def Op1 (K : PySem.W.Frag) (Wx : WX) (r : V → Hp → VK → Prop) (dr : D1) : Prop := ∀ {w σ μ x v P R}, WOk K w μ → WAt K w x v → dr x μ P R → ∀ {Q}, QN K w P Q → QX K Wx w σ R → r v w.H Q
def dUn (dr : D1) (da : DE) : DE := fun ρ μ P R => da ρ μ (fun x μ1 => dr x μ1 P R) R
theorem sim_un {r : V → Hp → VK → Prop} {dr : D1} {ta : TE} {da : DE} (hr : Op1 K Wx r dr) (ha : Sim K Wx ta da) : Sim K Wx (tUn r ta) (dUn dr da) := fun {w σ ρ μ P R} ok st h {Q} qn qx =>
  ha ok st h (fun w1 μ1 x v s1 ok1 hx h1 => hr ok1 hx h1 (qn.step s1) (qx.step s1)) qx
def dU (g : Int → V) : D1 := fun x μ P _ => ∃ i, x = wi i ∧ P (.d (.v (g i))) μ
theorem op1_U {g : Int → V} : Op1 K Wx (rU g) (dU g) := fun ok hx h _ qn _ => by
  obtain ⟨i, rfl, p⟩ := h
  cases hx
  exact ⟨i, rfl, qn.now ok .imm p⟩
/-- tests -/
def dTest (d : DE) : DTe := fun ρ μ P R => d ρ μ (fun x μ1 => ∃ k, x = wb k ∧ P k μ1) R
theorem sim_test {t : TE} {d : DE} (h : Sim K Wx t d) : SimT K Wx (tTest t) (dTest d) := fun {w σ ρ μ P R} ok st q {Q} qt qx =>
  h ok st q (fun w1 μ1 x v s1 ok1 hx ⟨k, e, p⟩ => by
    subst e
    cases hx
    exact ⟨k, rfl, qt w1 μ1 k s1 ok1 p⟩) qx
theorem sim_B {t : TE} {d : DE} (h : Sim K Wx t d) : SimT K Wx (tB t) (dTest d) := fun {w σ ρ μ P R} ok st q {Q} qt qx =>
  h ok st q (fun w1 μ1 x v s1 ok1 hx ⟨k, e, p⟩ => by
    subst e
    cases hx
    exact ⟨k, rfl, qt w1 μ1 k s1 ok1 p⟩) qx
def dAnd (d e : DTe) : DTe := fun ρ μ P R => d ρ μ (fun c μ1 => (c = true → e ρ μ1 P R) ∧ (c = false → P false μ1)) R
theorem sim_and {t u : TT} {d e : DTe} (h : SimT K Wx t d) (h' : SimT K Wx u e) : SimT K Wx (tAnd t u) (dAnd d e) := fun {w σ ρ μ P R} ok st q {Q} qt qx =>
  h ok st q (fun w1 μ1 c s1 ok1 ⟨p, p'⟩ => by
    cases c with
    | true => exact iteT (h' ok1 (st.step s1) (p rfl) (qt.step s1) (qx.step s1))
    | false => exact iteF (qt w1 μ1 false s1 ok1 (p' rfl))) qx
def dOrT (d e : DTe) : DTe := fun ρ μ P R => d ρ μ (fun c μ1 => (c = true → P true μ1) ∧ (c = false → e ρ μ1 P R)) R
theorem sim_or {t u : TT} {d e : DTe} (h : SimT K Wx t d) (h' : SimT K Wx u e) : SimT K Wx (tOr t u) (dOrT d e) := fun {w σ ρ μ P R} ok st q {Q} qt qx =>
  h ok st q (fun w1 μ1 c s1 ok1 ⟨p, p'⟩ => by
    cases c with
    | true => exact iteT (qt w1 μ1 true s1 ok1 (p rfl))
    | false => exact iteF (h' ok1 (st.step s1) (p' rfl) (qt.step s1) (qx.step s1))) qx
def dNot (d : DTe) : DTe := fun ρ μ P R => d ρ μ (fun c μ1 => P (!c) μ1) R
theorem sim_not {t : TT} {d : DTe} (h : SimT K Wx t d) : SimT K Wx (tNot t) (dNot d) := fun {w σ ρ μ P R} ok st q {Q} qt qx =>
  h ok st q (fun w1 μ1 c s1 ok1 p => qt w1 μ1 (!c) s1 ok1 p) qx
/-- as values -/
def dAndV (d e : DE) : DE := fun ρ μ P R => d ρ μ (fun x μ1 => ∃ c, x = wb c ∧ (c = true → e ρ μ1 P R) ∧ (c = false → P (wb false) μ1)) R
theorem sim_andV {t u : TE} {d e : DE} (h : Sim K Wx t d) (h' : Sim K Wx u e) : Sim K Wx (tAndV t u) (dAndV d e) := fun {w σ ρ μ P R} ok st q {Q} qt qx =>
  h ok st q (fun w1 μ1 x v s1 ok1 hx ⟨c, ex, p, p'⟩ => by
    subst ex
    cases hx
    refine ⟨c, rfl, ?_⟩
    cases c with
    | true => exact iteT (h' ok1 (st.step s1) (p rfl) (qt.step s1) (qx.step s1))
    | false => exact iteF (qt w1 μ1 _ _ s1 ok1 .imm (p' rfl))) qx
def dOrV (d e : DE) : DE := fun ρ μ P R => d ρ μ (fun x μ1 => ∃ c, x = wb c ∧ (c = true → P (wb true) μ1) ∧ (c = false → e ρ μ1 P R)) R
theorem sim_orV {t u : TE} {d e : DE} (h : Sim K Wx t d) (h' : Sim K Wx u e) : Sim K Wx (tOrV t u) (dOrV d e) := fun {w σ ρ μ P R} ok st q {Q} qt qx =>
  h ok st q (fun w1 μ1 x v s1 ok1 hx ⟨c, ex, p, p'⟩ => by
    subst ex
    cases hx
    refine ⟨c, rfl, ?_⟩
    cases c with
    | true => exact iteT (qt w1 μ1 _ _ s1 ok1 .imm (p rfl))
    | false => exact iteF (h' ok1 (st.step s1) (p' rfl) (qt.step s1) (qx.step s1))) qx
def dNotV (d : DE) : DE := fun ρ μ P R => d ρ μ (fun x μ1 => ∃ c, x = wb c ∧ P (wb (!c)) μ1) R
theorem sim_notV {t : TE} {d : DE} (h : Sim K Wx t d) : Sim K Wx (tNotV t) (dNotV d) := fun {w σ ρ μ P R} ok st q {Q} qt qx =>
  h ok st q (fun w1 μ1 x v s1 ok1 hx ⟨c, ex, p⟩ => by
    subst ex
    cases hx
    exact ⟨c, rfl, qt w1 μ1 _ _ s1 ok1 .imm p⟩) qx
def dIf (t : DTe) (d e : DE) : DE := fun ρ μ P R => t ρ μ (fun c μ1 => (c = true → d ρ μ1 P R) ∧ (c = false → e ρ μ1 P R)) R
theorem sim_if {c : TT} {t u : TE} {dc : DTe} {d e : DE} (hc : SimT K Wx c dc) (h : Sim K Wx t d) (h' : Sim K Wx u e) : Sim K Wx (tIf c t u) (dIf dc d e) := fun {w σ ρ μ P R} ok st q {Q} qt qx =>
  hc ok st q (fun w1 μ1 b s1 ok1 ⟨p, p'⟩ => by
    cases b with
    | true => exact iteT (h ok1 (st.step s1) (p rfl) (qt.step s1) (qx.step s1))
    | false => exact iteF (h' ok1 (st.step s1) (p' rfl) (qt.step s1) (qx.step s1))) qx
/-- a test that is a value's truth: None, bools, ints, texts, lists, tuples -/
def truth : D → Option Bool
  | .v .non => some false
  | .v (.bl b) => some b
  | .v (.int i) => some (i != 0)
  | .tup xs => some (!xs.isEmpty)
  | .lst xs => some (!xs.isEmpty)
  | _ => none
def dTru (d : DE) : DTe := fun ρ μ P R => d ρ μ (fun x μ1 => ∃ k, ((∃ y, (x = .d y ∨ x = .b y) ∧ truth y = some k) ∨ ∃ m ds, x = .m m ∧ μ1[m]? = some (.lst ds) ∧ k = !ds.isEmpty) ∧ P k μ1) R
/-- arguments -/
def dNil : DAr := fun _ μ P _ => P [] μ
def dCons (d : DE) (e : DAr) : DAr := fun ρ μ P R => d ρ μ (fun x μ1 => e ρ μ1 (fun xs μ2 => P (x :: xs) μ2) R) R
theorem sim_nil : SimA K Wx tNil dNil := fun ok st h _ q _ => q _ _ _ _ (.refl _) ok .nil h
theorem sim_cons {t : TE} {u : TA} {d : DE} {e : DAr} (h : Sim K Wx t d) (h' : SimA K Wx u e) : SimA K Wx (tCons t u) (dCons d e) := fun {w σ ρ μ P R} ok st q {Q} qa qx =>
  h ok st q (fun w1 μ1 x v s1 ok1 hx p => h' ok1 (st.step s1) p (fun w2 μ2 xs vs s2 ok2 hxs p2 => qa w2 μ2 _ _ (s1.trans s2) ok2 (.cons (hx.step s2) hxs) p2) (qx.step s1)) qx
/-- all of them data that stand for good -/
def alls : List W → Option (List D)
  | [] => some []
  | .d x :: r => (alls r).map (x :: ·)
  | _ => none
theorem alls_ats {xs : List W} {vs : List V} : WAts K w xs vs → ∀ {ds : List D}, alls xs = some ds → Ats K w.G ds vs := by
  intro h
  induction h with
  | nil =>
    intro ds e
    cases e
    exact .nil
  | cons a t ih =>
    rename_i x v xs vs
    intro ds e
    cases x with
    | d x =>
      cases q : alls xs with
      | none => simp [alls, q] at e
      | some l =>
        simp [alls, q] at e
        subst e
        exact .cons a (ih q)
    | b x => simp [alls] at e
    | m x => simp [alls] at e
/-- all of them data, lent or not -/
def allb : List W → Option (List D)
  | [] => some []
  | .d x :: r => (allb r).map (x :: ·)
  | .b x :: r => (allb r).map (x :: ·)
  | _ => none
theorem allb_ats (ok : WOk K w μ) {xs : List W} {vs : List V} : WAts K w xs vs → ∀ {ds : List D}, allb xs = some ds → Ats K w.B ds vs := by
  intro h
  induction h with
  | nil =>
    intro ds e
    cases e
    exact .nil
  | cons a t ih =>
    rename_i x v xs vs
    intro ds e
    cases x with
    | d x =>
      cases q : allb xs with
      | none => simp [allb, q] at e
      | some l =>
        simp [allb, q] at e
        subst e
        exact .cons (At.mono ok.gb a) (ih q)
    | b x =>
      cases q : allb xs with
      | none => simp [allb, q] at e
      | some l =>
        simp [allb, q] at e
        subst e
        exact .cons a (ih q)
    | m x => simp [allb] at e
theorem WAts.length : ∀ {xs : List W} {vs : List V}, WAts K w xs vs → xs.length = vs.length
  | _, _, .nil => rfl
  | _, _, .cons _ t => by simp [WAts.length t]
theorem WAt.last {p : Addr} {o : HO} (ok : WOk K w μ) : WAt K (w.newM p o) (.m μ.length) (.ref p) := ⟨p, by
  show (w.α ++ [p])[μ.length]? = some p
  rw [← ok.len]
  simp, rfl⟩
/-- a new tuple; a new list: a datum, or a thing that changes -/
def small (n : Nat) : Prop := n ≤ 1000000
theorem small_ok {n : Nat} (h : small n) : n ≤ sizeLine := Nat.le_trans h (by decide)
theorem small_lt {n : Nat} (h : small (n + 1)) : n < sizeLine := Nat.lt_of_lt_of_le (Nat.lt_succ_self n) (small_ok h)
def newTup (ds : List D) (μ : Mu) (P : PN) : Prop := P (.d (.tup ds)) μ
def newLst (ds : List D) (μ : Mu) (P : PN) : Prop := P (.d (.lst ds)) μ ∨ P (.m μ.length) (μ ++ [.lst ds])
theorem newTup_ok {ds : List D} {vs : List V} {P : PN} {Q : VK} (ok : WOk K w μ) (h : Ats K w.G ds vs) (q : newTup ds μ P) (qn : QN K w P Q) {p : Addr} (hp : w.H p = none) : Q (.ref p) (upd w.H p (.tup vs)) :=
  qn (w.new p (.tup vs)) μ _ _ (Step.new ok hp) (ok.new hp) (.dat (At.tup (st_of upd_same) (h.mono (Ex.new (none_back (ok.gb.trans ok.bh) hp))))) q
theorem newLst_ok {ds : List D} {vs : List V} {P : PN} {Q : VK} (ok : WOk K w μ) (h : Ats K w.G ds vs) (q : newLst ds μ P) (qn : QN K w P Q) {p : Addr} (hp : w.H p = none) : Q (.ref p) (upd w.H p (.lst vs)) := by
  rcases q with q | q
  · exact qn (w.new p (.lst vs)) μ _ _ (Step.new ok hp) (ok.new hp) (.dat (At.lst upd_same (h.mono (Ex.new (none_back (ok.gb.trans ok.bh) hp))))) q
  · refine qn (w.newM p (.lst vs)) _ _ _ (Step.newM hp) (ok.newM (u := .lst ds) hp ⟨none_back ok.bh hp, vs, upd_same, h⟩) (WAt.last ok) q
/-- the items are told as data: for good if all of them are, else lent -/
def Data (xs : List W) (P Q : List D → Prop) : Prop := match alls xs with
  | some ds => P ds
  | none => ∃ ds, allb xs = some ds ∧ Q ds
def dTup (d : DAr) : DE := fun ρ μ P R => d ρ μ (fun xs μ1 => small xs.length ∧ Data xs (fun ds => P (.d (.tup ds)) μ1) (fun ds => P (.b (.tup ds)) μ1)) R
theorem sim_tup {t : TA} {d : DAr} (h : SimA K Wx t d) : Sim K Wx (tTup t) (dTup d) := fun {w σ ρ μ P R} ok st q {Q} qn qx =>
  h ok st q (fun w1 μ1 xs vs s1 ok1 hx ⟨l, p⟩ => ⟨by rw [← hx.length]; exact small_ok l, fun a ha => by
    unfold Data at p
    split at p
    · rename_i ds e
      exact newTup_ok ok1 (alls_ats hx e) p (qn.step s1) ha
    · obtain ⟨ds, e, p⟩ := p
      exact (qn.step s1) (w1.newB a (.tup vs)) μ1 _ _ (Step.newB ok1 ha) (ok1.newB ha) (.lent (At.tup (st_of upd_same) ((allb_ats ok1 hx e).mono (Ex.new (none_back ok1.bh ha))))) p⟩) qx
def dLst (d : DAr) : DE := fun ρ μ P R => d ρ μ (fun xs μ1 => small xs.length ∧ Data xs (fun ds => newLst ds μ1 P) (fun ds => P (.b (.lst ds)) μ1)) R
theorem sim_lst {t : TA} {d : DAr} (h : SimA K Wx t d) : Sim K Wx (tLst t) (dLst d) := fun {w σ ρ μ P R} ok st q {Q} qn qx =>
  h ok st q (fun w1 μ1 xs vs s1 ok1 hx ⟨l, p⟩ => ⟨by rw [← hx.length]; exact small_ok l, fun a ha => by
    unfold Data at p
    split at p
    · rename_i ds e
      exact newLst_ok ok1 (alls_ats hx e) p (qn.step s1) ha
    · obtain ⟨ds, e, p⟩ := p
      exact (qn.step s1) (w1.newB a (.lst vs)) μ1 _ _ (Step.newB ok1 ha) (ok1.newB ha) (.lent (At.lst upd_same ((allb_ats ok1 hx e).mono (Ex.new (none_back ok1.bh ha))))) p⟩) qx
end
end DL

set_option Elab.async false
set_option linter.all false
set_option maxRecDepth 100000
set_option maxHeartbeats 4000000
/-! DL, part three: subscripts, built-in calls, is, statements. -/
namespace DL
open PySem L2 Evl

section
variable {X : Cx}
/-- x is True, x is False, whatever x is -/
def rIsBA : R2 := fun x y H Q => ∃ b : Bool, y = .bl b ∧ Q (.bl (decide (x = .bl b))) H
theorem op_isBA : OpR X (compareOp .Is) rIsBA := by
  intro pins s σ H x y v u Q I rx ry h
  obtain ⟨b, rfl, q⟩ := h
  cases (show u = Value.bool b from ry)
  by_cases e : x = .bl b
  · subst e
    cases (show v = Value.bool b from rx)
    exact wpAny_is_self rfl ⟨.bl true, H, I, rfl, by simpa using q⟩
  · have ne : v ≠ Value.bool b := fun z => by
      subst z
      cases x with
      | non => cases (show Value.bool b = Value.none from rx)
      | bl c => exact e (by cases (show Value.bool b = Value.bool c from rx); rfl)
      | int i => obtain ⟨t, z⟩ := rx; cases z
      | str i => obtain ⟨t, z⟩ := rx; cases z
      | byt i => obtain ⟨t, z⟩ := rx; cases z
      | flt i => obtain ⟨t, z⟩ := rx; cases z
      | ref a => cases (show Value.bool b = Value.ref a from rx)
      | ty n => cases (show Value.bool b = Value.type n from rx)
    refine wpAny_is_other ?_ ne ⟨.bl false, H, I, rfl, by simpa [e] using q⟩
    cases x with
    | non => cases (show v = Value.none from rx); rfl
    | bl c => cases (show v = Value.bool c from rx); rfl
    | int i => obtain ⟨t, rfl⟩ := rx; rfl
    | str i => obtain ⟨t, rfl⟩ := rx; rfl
    | byt i => obtain ⟨t, rfl⟩ := rx; rfl
    | flt i => obtain ⟨t, rfl⟩ := rx; rfl
    | ref a => cases (show v = Value.ref a from rx); rfl
    | ty n => cases (show v = Value.type n from rx); rfl
end

section
variable {K : PySem.W.Frag} {Wx : WX} {w w1 w2 w' : Wd} {σ : L2.St} {ρ : Rho} {μ : Mu}
/-- what a name stands for as an immediate value -/
def dIsN : D2 := fun x y μ P _ => y = wn ∧ ∃ b, ((∃ u, x = .d (.v u) ∧ b = decide (u = .non)) ∨ ((∀ u, x ≠ .d (.v u)) ∧ (∀ u, x ≠ .b (.v u)) ∧ b = false)) ∧ P (wb b) μ
theorem not_imm {x : W} {v : V} (h : WAt K w x v) (h1 : ∀ u, x ≠ .d (.v u)) (h2 : ∀ u, x ≠ .b (.v u)) : ∃ a, v = .ref a := by
  have two : ∀ {G : Hp} {y : D} {v : V}, At K G y v → (∀ u, y ≠ .v u) → ∃ a, v = .ref a := fun {G y v} h n => by
    cases h with
    | v => exact absurd rfl (n _)
    | tup _ _ => exact ⟨_, rfl⟩
    | lst _ _ => exact ⟨_, rfl⟩
    | scr _ _ => exact ⟨_, rfl⟩
    | obj _ _ => exact ⟨_, rfl⟩
    | dT _ _ => exact ⟨_, rfl⟩
    | dK _ _ => exact ⟨_, rfl⟩
    | xc _ _ => exact ⟨_, rfl⟩
  cases x with
  | d y => exact two (show At K w.G y v from h) fun u e => h1 u (by rw [e])
  | b y => exact two (show At K w.B y v from h) fun u e => h2 u (by rw [e])
  | m k =>
    obtain ⟨a, _, e⟩ := h
    exact ⟨a, e⟩
theorem op2_isN : Op2 K Wx (fun x y H Q => y = .non ∧ Q (.bl (decide (x = .non))) H) dIsN := fun ok hx hy h _ qn _ => by
  obtain ⟨rfl, b, c, p⟩ := h
  cases hy
  refine ⟨rfl, ?_⟩
  rcases c with ⟨u, rfl, rfl⟩ | ⟨h1, h2, rfl⟩
  · cases hx
    exact qn.now ok .imm p
  · obtain ⟨a, rfl⟩ := not_imm hx h1 h2
    exact qn.now ok .imm p
def dNotN : D2 := fun x y μ P _ => y = wn ∧ ∃ b, ((∃ u, x = .d (.v u) ∧ b = !decide (u = .non)) ∨ ((∀ u, x ≠ .d (.v u)) ∧ (∀ u, x ≠ .b (.v u)) ∧ b = true)) ∧ P (wb b) μ
theorem op2_notN : Op2 K Wx (fun x y H Q => y = .non ∧ Q (.bl (!decide (x = .non))) H) dNotN := fun ok hx hy h _ qn _ => by
  obtain ⟨rfl, b, c, p⟩ := h
  cases hy
  refine ⟨rfl, ?_⟩
  rcases c with ⟨u, rfl, rfl⟩ | ⟨h1, h2, rfl⟩
  · cases hx
    exact qn.now ok .imm p
  · obtain ⟨a, rfl⟩ := not_imm hx h1 h2
    exact qn.now ok .imm p
def dIsB : D2 := fun x y μ P _ => ∃ c, y = wb c ∧ ∃ b, ((∃ u, x = .d (.v u) ∧ b = decide (u = .bl c)) ∨ ((∀ u, x ≠ .d (.v u)) ∧ (∀ u, x ≠ .b (.v u)) ∧ b = false)) ∧ P (wb b) μ
theorem op2_isB : Op2 K Wx rIsBA dIsB := fun ok hx hy h _ qn _ => by
  obtain ⟨c, rfl, b, q, p⟩ := h
  cases hy
  refine ⟨c, rfl, ?_⟩
  rcases q with ⟨u, rfl, rfl⟩ | ⟨h1, h2, rfl⟩
  · cases hx
    exact qn.now ok .imm p
  · obtain ⟨a, rfl⟩ := not_imm hx h1 h2
    exact qn.now ok .imm p

/-! ### sequences -/
/-- the items of a sequence; whether they are lent -/
def seqOf (μ : Mu) : W → Option (List D × Bool)
  | .d (.lst ds) => some (ds, false)
  | .d (.tup ds) => some (ds, false)
  | .d (.scr ds) => some (ds, false)
  | .b (.lst ds) => some (ds, true)
  | .b (.tup ds) => some (ds, true)
  | .m k => match μ[k]? with
    | some (.lst ds) => some (ds, false)
    | _ => none
  | _ => none
def item (l : Bool) (d : D) : W := if l = true then lend d else .d d
def wH (w : Wd) (l : Bool) : Hp := if l = true then w.B else w.G
theorem item_at {l : Bool} {d : D} {v : V} (h : At K (wH w l) d v) : WAt K w (item l d) v := by
  cases l with
  | true => exact WAt.lend h
  | false => exact h
theorem wH_ex (ok : WOk K w μ) {l : Bool} : Ex (wH w l) w.H := by
  cases l with
  | true => exact ok.bh
  | false => exact ok.gb.trans ok.bh
theorem wH_step (s : Step w w') {l : Bool} : Ex (wH w l) (wH w' l) := by
  cases l with
  | true => exact s.b
  | false => exact s.g
theorem seq_ok (ok : WOk K w μ) {x : W} {v : V} {ds : List D} {l : Bool} (h : WAt K w x v) (e : seqOf μ x = some (ds, l)) : ∃ a xs, v = .ref a ∧ (SqL K w.H a xs ∨ SqT K w.H a xs) ∧ Ats K (wH w l) ds xs := by
  cases x with
  | d y =>
    cases h with
    | lst h1 h2 =>
      cases e
      exact ⟨_, _, rfl, .inl (sq_of (ok.gb.trans ok.bh _ _ h1)), h2⟩
    | tup h1 h2 =>
      cases e
      exact ⟨_, _, rfl, .inr (ex_t (ok.gb.trans ok.bh) h1), h2⟩
    | scr h1 h2 =>
      cases e
      exact ⟨_, _, rfl, .inl (ex_l (ok.gb.trans ok.bh) h1), h2⟩
    | v => cases e
    | obj _ _ => cases e
    | dT _ _ => cases e
    | dK _ _ => cases e
    | xc _ _ => cases e
  | b y =>
    cases h with
    | lst h1 h2 =>
      cases e
      exact ⟨_, _, rfl, .inl (sq_of (ok.bh _ _ h1)), h2⟩
    | tup h1 h2 =>
      cases e
      exact ⟨_, _, rfl, .inr (ex_t ok.bh h1), h2⟩
    | scr _ _ => cases e
    | v => cases e
    | obj _ _ => cases e
    | dT _ _ => cases e
    | dK _ _ => cases e
    | xc _ _ => cases e
  | m k =>
    obtain ⟨a, h1, rfl⟩ := h
    have e' : (match μ[k]? with
      | some (.lst ds) => some (ds, false)
      | _ => none) = some (ds, l) := e
    cases q : μ[k]? with
    | none => rw [q] at e'; cases e'
    | some o =>
      rw [q] at e'
      cases o with
      | lst dd =>
        cases e'
        obtain ⟨_, xs, h2, h3⟩ := ok.mu k a _ h1 q
        exact ⟨a, xs, rfl, .inl (sq_of h2), h3⟩
      | ins _ _ => cases e'
      | dT _ => cases e'
      | dK _ => cases e'
      | dead => cases e'
theorem atI_at {G : Hp} {ds : List D} {xs : List V} {i : Int} {d : D} (h : Ats K G ds xs) (e : atI ds i = some d) : ∃ v, atI xs i = some v ∧ At K G d v := by
  unfold atI at *
  rw [← h.length]
  cases q : ixN ds.length i with
  | none => rw [q] at e; cases e
  | some j =>
    rw [q] at e
    exact h.get (i := j) e
def dIx : D2 := fun x y μ P _ => ∃ i, y = wi i ∧ ((∃ ds l d, seqOf μ x = some (ds, l) ∧ atI ds i = some d ∧ P (item l d) μ) ∨ ∃ z c, x = ws z ∧ z.length ≤ sizeLine ∧ atI z.cps.toList i = some c ∧ P (ws ⟨#[c]⟩) μ)
theorem op2_ix : Op2 K Wx (rIx K) dIx := fun {w σ μ x y v u P R} ok hx hy h {Q} qn _ => by
  obtain ⟨i, rfl, h⟩ := h
  cases hy
  rcases h with ⟨ds, l, d, e, ha, p⟩ | ⟨z, c, rfl, h1, h2, p⟩
  · obtain ⟨a, xs, rfl, hs, hd⟩ := seq_ok ok hx e
    obtain ⟨v, hv, av⟩ := atI_at hd ha
    have q := qn.now ok (item_at av) p
    rcases hs with hs | hs
    · exact .inl ⟨a, xs, i, v, rfl, rfl, hs, hv, q⟩
    · exact .inr (.inl ⟨a, xs, i, v, rfl, rfl, hs, hv, q⟩)
  · cases hx
    exact .inr (.inr ⟨z, i, c, rfl, rfl, h1, h2, qn.now ok .imm p⟩)

/-! ### slices -/
def cutD (xs : List D) (lo hi : Option Int) : List D := (xs.drop (HT.sIx xs.length 0 lo)).take (HT.sIx xs.length xs.length hi - HT.sIx xs.length 0 lo)
theorem cut_ats {G : Hp} {ds : List D} {xs : List V} {lo hi : Option Int} (h : Ats K G ds xs) : Ats K G (cutD ds lo hi) (cutV xs lo hi) := by
  unfold cutD cutV
  rw [← h.length]
  exact (h.drop _).take _
abbrev DO := Rho → Mu → (Option Int → Mu → Prop) → PX → Prop
def SimO (K : PySem.W.Frag) (Wx : WX) (te : TO) (de : DO) : Prop := ∀ {w σ ρ μ P R}, WOk K w μ → Sto K w σ ρ → de ρ μ P R → ∀ {Q : Option Int → Hp → Prop}, (∀ w' μ' o, Step w w' → WOk K w' μ' → P o μ' → Q o w'.H) → QX K Wx w σ R → te σ w.H Q
def dNoPart : DO := fun _ μ P _ => P none μ
theorem sim_noPart : SimO K Wx tNoPart dNoPart := fun ok st h _ q _ => q _ _ _ (.refl _) ok h
def dPart (d : DE) : DO := fun ρ μ P R => d ρ μ (fun x μ1 => ∃ i, x = wi i ∧ P (some i) μ1) R
theorem sim_part {te : TE} {de : DE} (h : Sim K Wx te de) : SimO K Wx (tPart te) (dPart de) := fun {w σ ρ μ P R} ok st q {Q} qo qx =>
  h ok st q (fun w1 μ1 x v s1 ok1 hx ⟨i, e, p⟩ => by
    subst e
    cases hx
    exact ⟨i, rfl, qo w1 μ1 _ s1 ok1 p⟩) qx
end
end DL

set_option Elab.async false
set_option linter.all false
set_option maxRecDepth 100000
set_option maxHeartbeats 4000000
/-! DL, part four: slices, sums of sequences, built-in calls, statements, loops. -/
namespace DL
open PySem L2 Evl

section
variable {K : PySem.W.Frag} {Wx : WX} {w w1 w2 w' : Wd} {σ : L2.St} {ρ : Rho} {μ : Mu}
/-- a list that stands by itself: its items; a datum, or a thing that changes -/
def lstOf (μ : Mu) : W → Option (List D)
  | .d (.lst ds) => some ds
  | .m k => match μ[k]? with
    | some (.lst ds) => some ds
    | _ => none
  | _ => none
theorem lst_ok (ok : WOk K w μ) {x : W} {v : V} {ds : List D} (h : WAt K w x v) (e : lstOf μ x = some ds) : ∃ a xs, v = .ref a ∧ w.H a = some (.lst xs) ∧ Ats K w.G ds xs := by
  cases x with
  | d y =>
    cases h with
    | lst h1 h2 =>
      cases e
      exact ⟨_, _, rfl, ok.gb.trans ok.bh _ _ h1, h2⟩
    | tup h1 h2 => cases e
    | scr h1 h2 => cases e
    | v => cases e
    | obj _ _ => cases e
    | dT _ _ => cases e
    | dK _ _ => cases e
    | xc _ _ => cases e
  | b y => cases y <;> cases e
  | m k =>
    obtain ⟨a, h1, rfl⟩ := h
    have e' : (match μ[k]? with
      | some (.lst ds) => some ds
      | _ => none) = some ds := e
    cases q : μ[k]? with
    | none => rw [q] at e'; cases e'
    | some o =>
      rw [q] at e'
      cases o with
      | lst dd =>
        cases e'
        obtain ⟨_, xs, h2, h3⟩ := ok.mu k a _ h1 q
        exact ⟨a, xs, rfl, h2, h3⟩
      | ins _ _ => cases e'
      | dT _ => cases e'
      | dK _ => cases e'
      | dead => cases e'
theorem tup_ok (ok : WOk K w μ) {ds : List D} {v : V} (h : WAt K w (.d (.tup ds)) v) : ∃ a xs, v = .ref a ∧ SqT K w.H a xs ∧ Ats K w.G ds xs ∧ SqT K w.G a xs := by
  cases h with
  | tup h1 h2 => exact ⟨_, _, rfl, ex_t (ok.gb.trans ok.bh) h1, h2, h1⟩
def dSl (dx : DE) (dl dh : DO) : DE := fun ρ μ P R => dx ρ μ (fun x μ1 => dl ρ μ1 (fun lo μ2 => dh ρ μ2 (fun hi μ3 =>
  (∃ ds, lstOf μ3 x = some ds ∧ newLst (cutD ds lo hi) μ3 P) ∨ (∃ ds, x = .d (.tup ds) ∧ P (.d (.tup (cutD ds lo hi))) μ3) ∨ (∃ z, x = ws z ∧ z.length ≤ sizeLine ∧ P (ws (cutS z lo hi)) μ3)) R) R) R
theorem cutD_all (ds : List D) {lo hi : Option Int} (h : HT.sIx ds.length 0 lo = 0 ∧ HT.sIx ds.length ds.length hi = ds.length) : cutD ds lo hi = ds := by
  unfold cutD
  rw [h.1, h.2]
  simp
theorem sim_sl {tx : TE} {tl th : TO} {dx : DE} {dl dh : DO} (hx : Sim K Wx tx dx) (hl : SimO K Wx tl dl) (hh : SimO K Wx th dh) : Sim K Wx (tSl (fun x lo hi H Q => rSlL K x lo hi H Q ∨ (rSlA K x lo hi H Q ∨ rSlS x lo hi H Q)) tx tl th) (dSl dx dl dh) := fun {w σ ρ μ P R} ok st q {Q} qn qx =>
  hx ok st q (fun w1 μ1 x v s1 ok1 ax q1 => hl ok1 (st.step s1) q1 (fun w2 μ2 lo s2 ok2 q2 => hh ok2 (st.step (s1.trans s2)) q2 (fun w3 μ3 hi s3 ok3 q3 => by
    have ax3 := ax.step (s2.trans s3)
    have qn3 := qn.step (s1.trans (s2.trans s3))
    rcases q3 with ⟨ds, e, p⟩ | ⟨ds, rfl, p⟩ | ⟨z, rfl, hz, p⟩
    · obtain ⟨a, xs, rfl, h1, h2⟩ := lst_ok ok3 ax3 e
      exact .inl ⟨a, xs, rfl, sq_of h1, fun b hb => newLst_ok ok3 (cut_ats h2) p qn3 hb⟩
    · obtain ⟨a, xs, rfl, h1, h2, h3⟩ := tup_ok ok3 ax3
      refine .inr (.inl ⟨a, xs, rfl, h1, fun hw => ?_, fun hw b hb => newTup_ok ok3 (cut_ats h2) p qn3 hb⟩)
      rw [cutD_all ds (by rw [h2.length]; exact hw)] at p
      exact qn3.now ok3 ax3 p
    · cases ax3
      exact .inr (.inr ⟨z, rfl, hz, qn3.now ok3 .imm p⟩)) (qx.step (s1.trans s2))) (qx.step s1)) qx
/-- list + list, tuple + tuple, text + text, int + int -/
def dAdd : D2 := fun x y μ P _ => (∃ i j, x = wi i ∧ y = wi j ∧ P (wi (i + j)) μ) ∨ (∃ as bs, lstOf μ x = some as ∧ lstOf μ y = some bs ∧ small (as.length + bs.length) ∧ newLst (as ++ bs) μ P) ∨
  (∃ as bs, x = .d (.tup as) ∧ y = .d (.tup bs) ∧ small (as.length + bs.length) ∧ P (.d (.tup (as ++ bs))) μ) ∨ (∃ a b, x = ws a ∧ y = ws b ∧ small (a.length + b.length) ∧ P (ws (a ++ b)) μ)
def rAddA (K : PySem.W.Frag) : R2 := fun x y H Q => rI0 (fun i j => .int (i + j)) x y H Q ∨ (rCat x y H Q ∨ (rCatA K x y H Q ∨ ∃ i j, x = .str i ∧ y = .str j ∧ i.length + j.length ≤ sizeLine ∧ Q (.str (i ++ j)) H))
theorem Ats.nil_iff {G : Hp} {ds : List D} {xs : List V} (h : Ats K G ds xs) : xs = [] ↔ ds = [] := by
  cases h <;> simp
theorem op2_add : Op2 K Wx (rAddA K) dAdd := fun {w σ μ x y v u P R} ok hx hy h {Q} qn _ => by
  rcases h with ⟨i, j, rfl, rfl, p⟩ | ⟨as, bs, e1, e2, hz, p⟩ | ⟨as, bs, rfl, rfl, hz, p⟩ | ⟨a, b, rfl, rfl, hz, p⟩
  · cases hx
    cases hy
    exact .inl ⟨i, j, rfl, rfl, qn.now ok .imm p⟩
  · obtain ⟨a, xs, rfl, h1, h2⟩ := lst_ok ok hx e1
    obtain ⟨b, ys, rfl, h3, h4⟩ := lst_ok ok hy e2
    exact .inr (.inl ⟨a, b, xs, ys, rfl, rfl, h1, h3, by rw [← h2.length, ← h4.length]; exact small_ok hz, fun c hc => newLst_ok ok (h2.append h4) p qn hc⟩)
  · obtain ⟨a, xs, rfl, h1, h2, h5⟩ := tup_ok ok hx
    obtain ⟨b, ys, rfl, h3, h4, h6⟩ := tup_ok ok hy
    refine .inr (.inr (.inl ⟨a, b, xs, ys, rfl, rfl, h1, h3, by rw [← h2.length, ← h4.length]; exact small_ok hz, fun e => ?_, fun _ e => ?_, fun _ _ c hc => newTup_ok ok (h2.append h4) p qn hc⟩))
    · rw [h2.nil_iff.mp e] at p
      exact qn.now ok hy p
    · rw [h4.nil_iff.mp e, List.append_nil] at p
      exact qn.now ok hx p
  · cases hx
    cases hy
    exact .inr (.inr (.inr ⟨a, b, rfl, rfl, small_ok hz, qn.now ok .imm p⟩))
/-- list * int -/
theorem Ats.reps {G : Hp} {ds : List D} {xs : List V} (h : Ats K G ds xs) : ∀ n : Nat, Ats K G (List.replicate n ds).flatten (List.replicate n xs).flatten
  | 0 => by simp; exact .nil
  | n + 1 => by
    rw [List.replicate_succ, List.replicate_succ, List.flatten_cons, List.flatten_cons]
    exact h.append (Ats.reps h n)
def dMul : D2 := fun x y μ P _ => (∃ i j, x = wi i ∧ y = wi j ∧ CMul i j ∧ P (wi (i * j)) μ) ∨ (∃ as k, lstOf μ x = some as ∧ y = wi k ∧ 0 ≤ k ∧ k ≤ 1000000 ∧ small (as.length * k.toNat) ∧ newLst (List.replicate k.toNat as).flatten μ P)
def rMulA : R2 := fun x y H Q => rI CMul (fun i j => .int (i * j)) x y H Q ∨ rRep x y H Q
theorem op2_mul : Op2 K Wx rMulA dMul := fun {w σ μ x y v u P R} ok hx hy h {Q} qn _ => by
  rcases h with ⟨i, j, rfl, rfl, c, p⟩ | ⟨as, k, e1, rfl, h1, h2, hz, p⟩
  · cases hx
    cases hy
    exact .inl ⟨i, j, rfl, rfl, c, qn.now ok .imm p⟩
  · obtain ⟨a, xs, rfl, h3, h4⟩ := lst_ok ok hx e1
    cases hy
    exact .inr ⟨a, k, xs, rfl, rfl, h3, by omega, by omega, by rw [← h4.length]; exact small_ok hz, fun c hc => newLst_ok ok (h4.reps k.toNat) p qn hc⟩

/-! ### calls of built-ins -/
abbrev DC := List W → Mu → PN → PX → Prop
def OpC (K : PySem.W.Frag) (Wx : WX) (r : List V → Hp → VK → Prop) (dr : DC) : Prop := ∀ {w σ μ xs vs P R}, WOk K w μ → WAts K w xs vs → dr xs μ P R → ∀ {Q}, QN K w P Q → QX K Wx w σ R → r vs w.H Q
def dCB (dr : DC) (da : DAr) : DE := fun ρ μ P R => da ρ μ (fun xs μ1 => dr xs μ1 P R) R
theorem sim_cb {r : List V → Hp → VK → Prop} {dr : DC} {ta : TA} {da : DAr} (hr : OpC K Wx r dr) (ha : SimA K Wx ta da) : Sim K Wx (tCB r ta) (dCB dr da) := fun {w σ ρ μ P R} ok st h {Q} qn qx =>
  ha ok st h (fun w1 μ1 xs vs s1 ok1 hx h1 => hr ok1 hx h1 (qn.step s1) (qx.step s1)) qx
theorem wats1 {x : W} {vs : List V} (h : WAts K w [x] vs) : ∃ v, vs = [v] ∧ WAt K w x v := by
  cases h with
  | cons a t =>
    cases t
    exact ⟨_, rfl, a⟩
theorem wats2 {x y : W} {vs : List V} (h : WAts K w [x, y] vs) : ∃ v u, vs = [v, u] ∧ WAt K w x v ∧ WAt K w y u := by
  cases h with
  | cons a t =>
    obtain ⟨u, rfl, b⟩ := wats1 t
    exact ⟨_, _, rfl, a, b⟩
/-- len -/
def dLen : DC := fun xs μ P _ => ∃ x, xs = [x] ∧ ((∃ ds l, seqOf μ x = some (ds, l) ∧ P (wi ds.length) μ) ∨ ∃ z, x = ws z ∧ z.length ≤ sizeLine ∧ P (wi z.length) μ)
theorem opc_len : OpC K Wx (fun xs H Q => ∃ x n, xs = [x] ∧ LenV K x H n ∧ Q (.int n) H) dLen := fun {w σ μ xs vs P R} ok hx h {Q} qn _ => by
  obtain ⟨x, rfl, h⟩ := h
  obtain ⟨v, rfl, av⟩ := wats1 hx
  rcases h with ⟨ds, l, e, p⟩ | ⟨z, rfl, hz, p⟩
  · obtain ⟨a, ys, rfl, hs, hd⟩ := seq_ok ok av e
    refine ⟨.ref a, ys.length, rfl, ?_, ?_⟩
    · rcases hs with hs | hs
      · exact .inl ⟨ys, hs, rfl⟩
      · exact .inr ⟨ys, hs, rfl⟩
    · rw [← hd.length]
      exact qn.now ok .imm p
  · cases av
    exact ⟨.str z, z.length, rfl, ⟨hz, rfl⟩, qn.now ok .imm p⟩
/-- immediate items alone -/
def flats : List D → Bool
  | [] => true
  | .v _ :: r => flats r
  | _ => false
theorem flats_ats {G G' : Hp} : ∀ {ds : List D} {vs : List V}, flats ds = true → Ats K G ds vs → Ats K G' ds vs
  | [], _, _, .nil => .nil
  | .v x :: r, _, e, .cons h t => by
    cases h
    exact .cons (.v x) (flats_ats (ds := r) e t)
/-- list(x), tuple(x): the items, of a lent thing only immediate ones -/
def perm (l : Bool) (ds : List D) : Prop := l = false ∨ flats ds = true
theorem perm_ats {l : Bool} {ds : List D} {vs : List V} (p : perm l ds) (h : Ats K (wH w l) ds vs) : Ats K w.G ds vs := by
  rcases p with rfl | p
  · exact h
  · exact flats_ats p h
def dList : DC := fun xs μ P _ => ∃ x ds l, xs = [x] ∧ seqOf μ x = some (ds, l) ∧ ((l = false ∨ flats ds = true) → newLst ds μ P) ∧ (¬ (l = false ∨ flats ds = true) → P (.b (.lst ds)) μ)
theorem opc_list : OpC K Wx (fun xs H Q => ∃ p ys, xs = [.ref p] ∧ (SqL K H p ys ∨ SqT K H p ys) ∧ ∀ l, H l = none → Q (.ref l) (upd H l (.lst ys))) dList := fun {w σ μ xs vs P R} ok hx h {Q} qn _ => by
  obtain ⟨x, ds, l, rfl, e, h1, h2⟩ := h
  obtain ⟨v, rfl, av⟩ := wats1 hx
  obtain ⟨a, ys, rfl, hs, hd⟩ := seq_ok ok av e
  refine ⟨a, ys, rfl, hs, fun b hb => ?_⟩
  by_cases pm : l = false ∨ flats ds = true
  · exact newLst_ok ok (perm_ats pm hd) (h1 pm) qn hb
  · have p := h2 pm
    exact qn (w.newB b (.lst ys)) μ _ _ (Step.newB ok hb) (ok.newB hb) (.lent (At.lst upd_same (hd.mono (by
      cases l with
      | true => exact Ex.new (none_back ok.bh hb)
      | false => exact ok.gb.trans (Ex.new (none_back ok.bh hb)))))) p
def dTuple : DC := fun xs μ P _ => ∃ x, xs = [x] ∧ ((∃ ds, (x = .d (.tup ds) ∨ lstOf μ x = some ds) ∧ P (.d (.tup ds)) μ) ∨ (∃ ds, x = .b (.tup ds) ∧ P x μ) ∨ ∃ ds, x = .b (.lst ds) ∧ ((flats ds = true ∧ P (.d (.tup ds)) μ) ∨ P (.b (.tup ds)) μ))
theorem opc_tuple : OpC K Wx (fun xs H Q => ∃ p ys, xs = [.ref p] ∧ ((SqL K H p ys ∧ ∀ l, H l = none → Q (.ref l) (upd H l (.tup ys))) ∨ (SqT K H p ys ∧ Q (.ref p) H))) dTuple := fun {w σ μ xs vs P R} ok hx h {Q} qn _ => by
  obtain ⟨x, rfl, h⟩ := h
  obtain ⟨v, rfl, av⟩ := wats1 hx
  rcases h with ⟨ds, rfl | e, p⟩ | ⟨ds, rfl, p⟩ | ⟨ds, rfl, p⟩
  · obtain ⟨a, ys, rfl, h1, h2, h3⟩ := tup_ok ok av
    exact ⟨a, ys, rfl, .inr ⟨h1, qn.now ok av p⟩⟩
  · obtain ⟨a, ys, rfl, h1, h2⟩ := lst_ok ok av e
    exact ⟨a, ys, rfl, .inl ⟨sq_of h1, fun b hb => newTup_ok ok h2 p qn hb⟩⟩
  · have av' := av
    cases av with
    | tup h1 h2 => exact ⟨_, _, rfl, .inr ⟨ex_t ok.bh h1, qn.now ok av' p⟩⟩
  · cases av with
    | lst h1 h2 =>
      refine ⟨_, _, rfl, .inl ⟨sq_of (ok.bh _ _ h1), fun b hb => ?_⟩⟩
      rcases p with ⟨f, p⟩ | p
      · exact newTup_ok ok (flats_ats f h2) p qn hb
      · exact qn (w.newB b _) μ _ _ (Step.newB ok hb) (ok.newB hb) (.lent (At.tup (st_of upd_same) (h2.mono (Ex.new (none_back ok.bh hb))))) p
/-- int(x) -/
def dInt : DC := fun xs μ P _ => ∃ i, xs = [wi i] ∧ P (wi i) μ
theorem opc_int : OpC K Wx (fun xs H Q => (∃ i, xs = [.int i] ∧ Q (.int i) H) ∨ ∃ k, xs = [.bl k] ∧ Q (.int (if k then 1 else 0)) H) dInt := fun {w σ μ xs vs P R} ok hx h {Q} qn _ => by
  obtain ⟨i, rfl, p⟩ := h
  obtain ⟨v, rfl, av⟩ := wats1 hx
  cases av
  exact .inl ⟨i, rfl, qn.now ok .imm p⟩
def dAbs : DC := fun xs μ P _ => ∃ i, xs = [wi i] ∧ P (wi (if i < 0 then -i else i)) μ
theorem opc_abs : OpC K Wx (fun xs H Q => ∃ i, xs = [.int i] ∧ Q (.int (if i < 0 then -i else i)) H) dAbs := fun {w σ μ xs vs P R} ok hx h {Q} qn _ => by
  obtain ⟨i, rfl, p⟩ := h
  obtain ⟨v, rfl, av⟩ := wats1 hx
  cases av
  exact ⟨i, rfl, qn.now ok .imm p⟩
def dMin2 : DC := fun xs μ P _ => ∃ i j, xs = [wi i, wi j] ∧ P (wi (if j < i then j else i)) μ
theorem opc_min2 : OpC K Wx (fun xs H Q => ∃ i j, xs = [.int i, .int j] ∧ Q (.int (if j < i then j else i)) H) dMin2 := fun {w σ μ xs vs P R} ok hx h {Q} qn _ => by
  obtain ⟨i, j, rfl, p⟩ := h
  obtain ⟨v, u, rfl, av, au⟩ := wats2 hx
  cases av
  cases au
  exact ⟨i, j, rfl, qn.now ok .imm p⟩
/-- isinstance(x, one class) -/
structure ClsIs (K : PySem.W.Frag) (C : Addr) : Prop where
  cl : Cls K C
  ha : PySem.W.findIn K (.ref C) "__class__" = some (some (.builtin "object.__class__"))
  hn : PySem.W.specialIn K (.builtin "object.__class__") "__get__" = some (some (.builtin "getset_descriptor.__get__"))
  htk : PySem.W.takesIn K (.builtin "object.__class__") = some true
  hm : PySem.W.mroIn K C (.type "object") = some true
/-- the type of what a name stands for -/
def tyW (μ : Mu) : W → Option Value
  | .d (.v .non) => some (.type "NoneType")
  | .d (.v (.bl _)) => some (.type "bool")
  | .d (.v (.int _)) => some (.type "int")
  | .d (.v (.str _)) => some (.type "str")
  | .d (.tup _) => some (.type "tuple")
  | .d (.lst _) => some (.type "list")
  | .d (.obj C _) => some (.ref C)
  | .b (.tup _) => some (.type "tuple")
  | .b (.lst _) => some (.type "list")
  | .m k => match μ[k]? with
    | some (.lst _) => some (.type "list")
    | _ => none
  | _ => none
theorem tyx_T {H : Hp} {a : Addr} {xs : List V} (h : SqT K H a xs) : TyX K H (.ref a) (.type "tuple") := by
  rcases h with (h | ⟨o, h⟩) | ⟨o, its, n, h, c, _⟩
  · exact .base (.tup h)
  · exact .fTuple h
  · exact .kTuple h c
theorem tyx_ok (ok : WOk K w μ) {x : W} {v : V} {t : Value} (h : WAt K w x v) (e : tyW μ x = some t) (hc : ∀ C, t = .ref C → ClsIs K C) : TyX K w.H v t := by
  cases x with
  | d y =>
    cases h with
    | v =>
      cases v with
      | non => cases e; exact .base .non
      | bl b => cases e; exact .base (.bl b)
      | int i => cases e; exact .base (.int i)
      | str s => cases e; exact .base (.str s)
      | byt _ => cases e
      | flt _ => cases e
      | ref _ => cases e
      | ty _ => cases e
    | tup h1 h2 => cases e; exact tyx_T (ex_t (ok.gb.trans ok.bh) h1)
    | lst h1 h2 => cases e; exact .base (.lst (ok.gb.trans ok.bh _ _ h1))
    | scr _ _ => cases e
    | obj h1 h2 =>
      cases e
      have c := hc _ rfl
      exact .base (.ins (ok.gb.trans ok.bh _ _ h1) c.cl c.ha c.hn c.htk c.hm)
    | dT _ _ => cases e
    | dK _ _ => cases e
    | xc _ _ => cases e
  | b y =>
    cases h with
    | tup h1 h2 => cases e; exact tyx_T (ex_t ok.bh h1)
    | lst h1 h2 => cases e; exact .base (.lst (ok.bh _ _ h1))
    | v => cases e
    | scr _ _ => cases e
    | obj _ _ => cases e
    | dT _ _ => cases e
    | dK _ _ => cases e
    | xc _ _ => cases e
  | m k =>
    obtain ⟨a, h1, rfl⟩ := h
    have e' : (match μ[k]? with
      | some (.lst _) => some (Value.type "list")
      | _ => none) = some t := e
    cases q : μ[k]? with
    | none => rw [q] at e'; cases e'
    | some o =>
      rw [q] at e'
      cases o with
      | lst dd =>
        cases e'
        obtain ⟨_, xs, h2, h3⟩ := ok.mu k a _ h1 q
        exact .base (.lst h2)
      | ins _ _ => cases e'
      | dT _ => cases e'
      | dK _ => cases e'
      | dead => cases e'
def dIsi (K : PySem.W.Frag) : DC := fun xs μ P _ => ∃ x c u t b, xs = [x, .d (.v c)] ∧ ClsV c u ∧ tyW μ x = some t ∧ (∀ C, t = .ref C → ClsIs K C) ∧ PySem.W.kitOne K t u = some b ∧ P (wb b) μ
theorem opc_isi : OpC K Wx (rIsi K) (dIsi K) := fun {w σ μ xs vs P R} ok hx h {Q} qn _ => by
  obtain ⟨x, c, u, t, b, rfl, k, e, hc, hk, p⟩ := h
  obtain ⟨v, z, rfl, av, az⟩ := wats2 hx
  cases az
  exact ⟨v, c, t, u, b, rfl, k, tyx_ok ok av e hc, hk, qn.now ok .imm p⟩
end
end DL

set_option Elab.async false
set_option linter.all false
set_option maxRecDepth 100000
set_option maxHeartbeats 4000000
/-! DL, part five: statements, loops. -/
namespace DL
open PySem L2 Evl

structure Dn where
  nx : Rho → Mu → Prop
  rt : W → Mu → Prop
  bk : Rho → Mu → Prop := fun _ _ => False
  ct : Rho → Mu → Prop := fun _ _ => False
  xc : Addr → List (Str × D) → Rho → Mu → Prop := fun _ _ _ _ => False
abbrev DSt := Dn → Rho → Mu → Prop
structure EndsOk (K : PySem.W.Frag) (Wx : WX) (w : Wd) (d : Dn) (De : Ends) : Prop where
  nx : ∀ {w' μ' σ' ρ'}, Step w w' → WOk K w' μ' → Sto K w' σ' ρ' → d.nx ρ' μ' → De.nx σ' w'.H
  rt : ∀ {w' μ' x v}, Step w w' → WOk K w' μ' → WAt K w' x v → d.rt x μ' → De.rt v w'.H
  bk : ∀ {w' μ' σ' ρ'}, Step w w' → WOk K w' μ' → Sto K w' σ' ρ' → d.bk ρ' μ' → De.bk σ' w'.H
  ct : ∀ {w' μ' σ' ρ'}, Step w w' → WOk K w' μ' → Sto K w' σ' ρ' → d.ct ρ' μ' → De.ct σ' w'.H
  xc : ∀ {w' μ' σ' ρ' C o fs}, Step w w' → WOk K w' μ' → Sto K w' σ' ρ' → XAt K w' o fs → d.xc C fs ρ' μ' → Wx (.ref C) o σ' w'.H
def SimS (K : PySem.W.Frag) (Wx : WX) (ts : TS) (ds : DSt) : Prop := ∀ {w σ ρ μ d De}, WOk K w μ → Sto K w σ ρ → ds d ρ μ → EndsOk K Wx w d De → ts De σ w.H

section
variable {K : PySem.W.Frag} {Wx : WX} {w w1 w2 w' : Wd} {σ : L2.St} {ρ : Rho} {μ : Mu}
theorem EndsOk.step {d : Dn} {De : Ends} (s : Step w w') (h : EndsOk K Wx w d De) : EndsOk K Wx w' d De :=
  ⟨fun t => h.nx (s.trans t), fun t => h.rt (s.trans t), fun t => h.bk (s.trans t), fun t => h.ct (s.trans t), fun t => h.xc (s.trans t)⟩
/-- the exceptions of an expression, as the statement has them -/
theorem EndsOk.qx {d : Dn} {De : Ends} (h : EndsOk K Wx w d De) (st : Sto K w σ ρ) : QX K Wx w σ (fun C fs μ' => d.xc C fs ρ μ') := fun w' μ' C o fs s ok xa r => h.xc s ok (st.step s) xa r
abbrev Dn.x (d : Dn) (ρ : Rho) : PX := fun C fs μ' => d.xc C fs ρ μ'
def dNext : DSt := fun d ρ μ => d.nx ρ μ
theorem sim_next : SimS K Wx tNext dNext := fun ok st h e => e.nx (.refl _) ok st h
def dSeq (s t : DSt) : DSt := fun d ρ μ => s { d with nx := fun ρ' μ' => t d ρ' μ' } ρ μ
theorem sim_seq {ts tu : TS} {ds du : DSt} (h : SimS K Wx ts ds) (h' : SimS K Wx tu du) : SimS K Wx (tSeq ts tu) (dSeq ds du) := fun {w σ ρ μ d De} ok st q e =>
  h ok st q ⟨fun s ok1 st1 q1 => h' ok1 st1 q1 (e.step s), fun s ok1 a q1 => e.rt s ok1 a q1, fun s ok1 a q1 => e.bk s ok1 a q1, fun s ok1 a q1 => e.ct s ok1 a q1, fun s ok1 st1 a q1 => e.xc s ok1 st1 a q1⟩
def dBreak : DSt := fun d ρ μ => d.bk ρ μ
theorem sim_break : SimS K Wx tBreak dBreak := fun ok st h e => e.bk (.refl _) ok st h
def dCont : DSt := fun d ρ μ => d.ct ρ μ
def dDrop (de : DE) : DSt := fun d ρ μ => de ρ μ (fun _ μ' => d.nx ρ μ') (d.x ρ)
def dRet (de : DE) : DSt := fun d ρ μ => de ρ μ (fun x μ' => d.rt x μ') (d.x ρ)
theorem sim_ret {te : TE} {de : DE} (h : Sim K Wx te de) : SimS K Wx (tRet te) (dRet de) := fun {w σ ρ μ d De} ok st q e =>
  h ok st q (fun w' μ' x v s ok' a p => e.rt s ok' a p) (e.qx st)
def dRetN : DSt := fun d ρ μ => d.rt wn μ
def dIfS (c : DTe) (s t : DSt) : DSt := fun d ρ μ => c ρ μ (fun b μ' => (b = true → s d ρ μ') ∧ (b = false → t d ρ μ')) (d.x ρ)
theorem sim_ifS {tc : TT} {ts tu : TS} {dc : DTe} {ds du : DSt} (hc : SimT K Wx tc dc) (h : SimS K Wx ts ds) (h' : SimS K Wx tu du) : SimS K Wx (tIfS tc ts tu) (dIfS dc ds du) := fun {w σ ρ μ d De} ok st q e =>
  hc ok st q (fun w1 μ1 b s1 ok1 ⟨p, p'⟩ => by
    cases b with
    | true => exact iteT (h ok1 (st.step s1) (p rfl) (e.step s1))
    | false => exact iteF (h' ok1 (st.step s1) (p' rfl) (e.step s1))) (e.qx st)

/-! ### targets: names, tuples of them -/
abbrev DG := W → Rho → Mu → (Rho → Mu → Prop) → Prop
def SimG (K : PySem.W.Frag) (tg : TG) (dg : DG) : Prop := ∀ {w σ ρ μ x v N}, WOk K w μ → Sto K w σ ρ → WAt K w x v → dg x ρ μ N → ∀ {Q : L2.St → Hp → Prop}, (∀ w' μ' σ' ρ', Step w w' → WOk K w' μ' → Sto K w' σ' ρ' → N ρ' μ' → Q σ' w'.H) → tg v σ w.H Q
def dName (i : Nat) : DG := fun x ρ μ N => N (ρ.set i (some x)) μ
theorem sim_name {i : Nat} : SimG K (gName i) (dName i) := fun ok st a h _ q => q _ _ _ _ (.refl _) ok (st.set a) h
abbrev DGs := List W → Rho → Mu → (Rho → Mu → Prop) → Prop
def SimGs (K : PySem.W.Frag) (tg : TGs) (dg : DGs) : Prop := ∀ {w σ ρ μ xs vs N}, WOk K w μ → Sto K w σ ρ → WAts K w xs vs → dg xs ρ μ N → ∀ {Q : L2.St → Hp → Prop}, (∀ w' μ' σ' ρ', Step w w' → WOk K w' μ' → Sto K w' σ' ρ' → N ρ' μ' → Q σ' w'.H) → tg vs σ w.H Q
def dGNil : DGs := fun xs ρ μ N => xs = [] ∧ N ρ μ
theorem sim_gnil : SimGs K gNil dGNil := fun ok st a h _ q => by
  obtain ⟨rfl, h⟩ := h
  cases a
  exact ⟨rfl, q _ _ _ _ (.refl _) ok st h⟩
def dGCons (dg : DG) (dr : DGs) : DGs := fun xs ρ μ N => ∃ x r, xs = x :: r ∧ dg x ρ μ (fun ρ' μ' => dr r ρ' μ' N)
theorem sim_gcons {tg : TG} {tr : TGs} {dg : DG} {dr : DGs} (hg : SimG K tg dg) (h : SimGs K tr dr) : SimGs K (gCons tg tr) (dGCons dg dr) := fun {w σ ρ μ xs vs N} ok st a q {Q} k => by
  obtain ⟨x, r, rfl, q⟩ := q
  cases a with
  | cons a t => exact ⟨_, _, rfl, hg ok st a q fun w1 μ1 σ1 ρ1 s1 ok1 st1 q1 => h ok1 st1 (t.step s1) q1 fun w2 μ2 σ2 ρ2 s2 ok2 st2 p => k w2 μ2 σ2 ρ2 (s1.trans s2) ok2 st2 p⟩
/-- a tuple taken apart -/
def dGTup (n : Nat) (dr : DGs) : DG := fun x ρ μ N => ∃ ds l, (x = .d (.tup ds) ∧ l = false ∨ x = .b (.tup ds) ∧ l = true) ∧ ds.length = n ∧ dr (ds.map (item l)) ρ μ N
theorem ats_items {l : Bool} : ∀ {ds : List D} {vs : List V}, Ats K (wH w l) ds vs → WAts K w (ds.map (item l)) vs
  | _, _, .nil => .nil
  | _, _, .cons h t => .cons (item_at h) (ats_items t)
theorem sim_gtup {n : Nat} {tr : TGs} {dr : DGs} (h : SimGs K tr dr) : SimG K (gTup K n tr) (dGTup n dr) := fun {w σ ρ μ x v N} ok st a q {Q} k => by
  obtain ⟨ds, l, e, hn, q⟩ := q
  rcases e with ⟨rfl, rfl⟩ | ⟨rfl, rfl⟩
  · cases a with
    | tup h1 h2 => exact ⟨_, _, rfl, ex_t (ok.gb.trans ok.bh) h1, by rw [← h2.length]; exact hn, h ok st (ats_items (l := false) h2) q k⟩
  · cases a with
    | tup h1 h2 => exact ⟨_, _, rfl, ex_t ok.bh h1, by rw [← h2.length]; exact hn, h ok st (ats_items (l := true) h2) q k⟩
def dAsg (de : DE) (dg : DG) : DSt := fun d ρ μ => de ρ μ (fun x μ' => dg x ρ μ' d.nx) (d.x ρ)
theorem sim_asg {te : TE} {tg : TG} {de : DE} {dg : DG} (h : Sim K Wx te de) (hg : SimG K tg dg) : SimS K Wx (tAsg te tg) (dAsg de dg) := fun {w σ ρ μ d De} ok st q e =>
  h ok st q (fun w' μ' x v s ok' a p => hg ok' (st.step s) a p fun w2 μ2 σ2 ρ2 s2 ok2 st2 p2 => e.nx (s.trans s2) ok2 st2 p2) (e.qx st)
/-- a, b = e1, e2 -/
def dPar (i j : Nat) (da : DAr) : DSt := fun d ρ μ => da ρ μ (fun xs μ' => ∃ x y, xs = [x, y] ∧ d.nx ((ρ.set i (some x)).set j (some y)) μ') (d.x ρ)
/-- x op= e, numbers -/
def dAug (i : Nat) (f : Int → Int → Int) (de : DE) : DSt := fun d ρ μ => ∃ a, ρ[i]? = some (some (wi a)) ∧ de ρ μ (fun x μ' => ∃ b, x = wi b ∧ d.nx (ρ.set i (some (wi (f a b)))) μ') (d.x ρ)
theorem sim_aug {i : Nat} {f : Int → Int → Int} {te : TE} {de : DE} (h : Sim K Wx te de) : SimS K Wx (tAug i te (ipI f)) (dAug i f de) := fun {w σ ρ μ d De} ok st q e => by
  obtain ⟨a, ea, q⟩ := q
  obtain ⟨v, ev, av⟩ := st.at' i _ ea
  cases av
  refine ⟨.int a, ev, h ok st q (fun w' μ' x v s ok' ax ⟨b, ex, p⟩ => ?_) (e.qx st)⟩
  subst ex
  cases ax
  exact ⟨a, b, rfl, rfl, e.nx s ok' ((st.step s).set .imm) p⟩

/-! ### things that change: append, xs[i] = e -/
def dApp (dl de : DE) : DSt := fun d ρ μ => dl ρ μ (fun x μ1 => ∃ k ds0, x = .m k ∧ μ1[k]? = some (.lst ds0) ∧ de ρ μ1 (fun y μ2 => ∃ z ds, y = .d z ∧ μ2[k]? = some (.lst ds) ∧ small (ds.length + 1) ∧ d.nx ρ (μ2.set k (.lst (ds ++ [z])))) (d.x ρ)) (d.x ρ)
theorem app_ok {z : D} {v : V} {k : Nat} {a : Addr} {ds : List D} {xs : List V} (ok : WOk K w μ) (hk : w.α[k]? = some a) (hm : μ[k]? = some (.lst ds)) (hb : w.B a = none) (hv : Ats K w.G ds xs) (az : At K w.G z v) :
    WOk K (w.put a (.lst (xs ++ [v]))) (μ.set k (.lst (ds ++ [z]))) := ok.put hk hm hb ⟨hb, _, upd_same, hv.append (.cons az .nil)⟩
theorem sim_app {ta te : TE} {dl de : DE} (hl : Sim K Wx ta dl) (h : Sim K Wx te de) : SimS K Wx (tDrop (tBM K "list" rAppend ta (tCons te tNil))) (dApp dl de) := fun {w σ ρ μ d De} ok st q e =>
  hl ok st q (fun w1 μ1 x v s1 ok1 ax ⟨k, ds0, ex, hm, q1⟩ => by
    subst ex
    obtain ⟨a, ha, rfl⟩ := ax
    obtain ⟨_, xs0, h0, _⟩ := ok1.mu k a _ ha hm
    refine ⟨.inl ⟨rfl, xs0, sq_of h0⟩, h ok1 (st.step s1) q1 (fun w2 μ2 y u s2 ok2 ay ⟨z, ds, ey, hm2, hz, p⟩ => ?_) ((e.step s1).qx (st.step s1))⟩
    subst ey
    have ha2 := s2.al? ha
    obtain ⟨hb, xs, h1, h2⟩ := ok2.mu k a _ ha2 hm2
    exact ⟨a, xs, u, rfl, rfl, h1, small_lt (by rw [← h2.length]; exact hz), e.nx ((s1.trans s2).trans (Step.put ha2)) (app_ok ok2 ha2 hm2 hb h2 ay) ((st.step (s1.trans s2)).step (Step.put ha2)) p⟩) (e.qx st)
def dSet (dl di de : DE) : DSt := fun d ρ μ => de ρ μ (fun y μ1 => dl ρ μ1 (fun x μ2 => di ρ μ2 (fun j μ3 => ∃ z k i n ds, y = .d z ∧ x = .m k ∧ j = wi i ∧ μ3[k]? = some (.lst ds) ∧ ixN ds.length i = some n ∧ d.nx ρ (μ3.set k (.lst (ds.set n z)))) (d.x ρ)) (d.x ρ)) (d.x ρ)
theorem sim_set {tl ti te : TE} {dl di de : DE} (hl : Sim K Wx tl dl) (hi : Sim K Wx ti di) (h : Sim K Wx te de) : SimS K Wx (tAsg te (gSub tl ti rSetL)) (dSet dl di de) := fun {w σ ρ μ d De} ok st q e =>
  h ok st q (fun w1 μ1 y u s1 ok1 ay q1 => hl ok1 (st.step s1) q1 (fun w2 μ2 x v s2 ok2 ax q2 => hi ok2 (st.step (s1.trans s2)) q2 (fun w3 μ3 j t s3 ok3 aj ⟨z, k, i, n, ds, ey, ex, ej, hm, hn, p⟩ => by
    subst ey ex ej
    cases aj
    have ay3 := (ay.step s2).step s3
    obtain ⟨a, ha, rfl⟩ := ax.step s3
    obtain ⟨hb, xs, h1, h2⟩ := ok3.mu k a _ ha hm
    refine ⟨a, xs, i, n, rfl, rfl, h1, by rw [← h2.length]; exact hn, ?_⟩
    have s4 := s1.trans (s2.trans s3)
    exact e.nx (s4.trans (Step.put ha)) (ok3.put (u' := .lst (ds.set n z)) ha hm hb ⟨hb, _, upd_same, h2.set ay3 n⟩) ((st.step s4).step (Step.put ha)) p) ((e.step (s1.trans s2)).qx (st.step (s1.trans s2)))) ((e.step s1).qx (st.step s1))) (e.qx st)

/-! ### views of a state: less is told, a list is frozen -/
inductive WkR : Rho → Rho → Prop
  | nil : WkR [] []
  | keep {x : Option W} {r s : Rho} : WkR r s → WkR (x :: r) (x :: s)
  | drop {x : Option W} {r s : Rho} : WkR r s → WkR (x :: r) (none :: s)
inductive WkM : Mu → Mu → Prop
  | nil {r : Mu} : WkM r []
  | keep {x : MO} {r s : Mu} : WkM r s → WkM (x :: r) (x :: s)
  | drop {x : MO} {r s : Mu} : WkM r s → WkM (x :: r) (.dead :: s)
theorem WkR.len : ∀ {r s : Rho}, WkR r s → r.length = s.length
  | _, _, .nil => rfl
  | _, _, .keep h => by simp [WkR.len h]
  | _, _, .drop h => by simp [WkR.len h]
theorem WkR.get : ∀ {r s : Rho} {i : Nat} {x : W}, WkR r s → s[i]? = some (some x) → r[i]? = some (some x)
  | _, _, _, _, .nil, e => e
  | _, _, 0, _, .keep _, e => e
  | _, _, i + 1, _, .keep h, e => by simpa using WkR.get (i := i) h (by simpa using e)
  | _, _, 0, _, .drop _, e => by simp at e
  | _, _, i + 1, _, .drop h, e => by simpa using WkR.get (i := i) h (by simpa using e)
theorem WkR.sto {r s : Rho} (h : WkR r s) (st : Sto K w σ r) : Sto K w σ s := ⟨st.len.trans h.len, fun i x e => st.at' i x (h.get e)⟩
theorem WkM.len : ∀ {r s : Mu}, WkM r s → s.length ≤ r.length
  | _, _, .nil => by simp
  | _, _, .keep h => by simp [WkM.len h]
  | _, _, .drop h => by simp [WkM.len h]
theorem WkM.get : ∀ {r s : Mu} {i : Nat} {o : MO}, WkM r s → s[i]? = some o → o = .dead ∨ r[i]? = some o
  | _, _, _, _, .nil, e => by simp at e
  | _, _, 0, _, .keep _, e => .inr e
  | _, _, i + 1, _, .keep h, e => by simpa using WkM.get (i := i) h (by simpa using e)
  | _, _, 0, _, .drop _, e => .inl (by simpa using e.symm)
  | _, _, i + 1, _, .drop h, e => by simpa using WkM.get (i := i) h (by simpa using e)
/-- the same world with fewer things that change -/
def Wd.cut (w : Wd) (n : Nat) : Wd := ⟨w.G, w.B, w.H, w.α.take n⟩
theorem WkM.ok {μ' : Mu} (h : WkM μ μ') (ok : WOk K w μ) : WOk K (w.cut μ'.length) μ' := by
  have hl := h.len
  refine ⟨ok.gb, ok.bh, ok.nd.sublist (List.take_sublist _ _), ?_, fun k a o h1 h2 => ?_, fun a ha => ok.has a (List.mem_of_mem_take ha)⟩
  · show (w.α.take μ'.length).length = _
    rw [List.length_take, ok.len]
    omega
  · have hk : k < μ'.length := (List.getElem?_eq_some_iff.mp h2).1
    have h1' : w.α[k]? = some a := by
      have z : (w.α.take μ'.length)[k]? = some a := h1
      rw [List.getElem?_take_of_lt hk] at z
      exact z
    rcases h.get h2 with rfl | h3
    · trivial
    · exact MOk.step_ne (w := w) (.refl _) id rfl (ok.mu k a o h1' h3)
/-- names that hold things behind the cut must be dropped -/
def inCut (n : Nat) : Rho → Prop
  | [] => True
  | some (.m k) :: r => k < n ∧ inCut n r
  | _ :: r => inCut n r
theorem inCut.get {n k : Nat} : ∀ {r : Rho} {i : Nat}, inCut n r → r[i]? = some (some (.m k)) → k < n
  | [], i, _, e => by simp at e
  | some (.m j) :: r, 0, h, e => by
    simp at e
    rw [← e]
    exact h.1
  | some (.m j) :: r, i + 1, h, e => inCut.get (i := i) h.2 (by simpa using e)
  | some (.d _) :: r, 0, h, e => by simp at e
  | some (.b _) :: r, 0, h, e => by simp at e
  | none :: r, 0, h, e => by simp at e
  | some (.d _) :: r, i + 1, h, e => inCut.get (i := i) (r := r) h (by simpa using e)
  | some (.b _) :: r, i + 1, h, e => inCut.get (i := i) (r := r) h (by simpa using e)
  | none :: r, i + 1, h, e => inCut.get (i := i) (r := r) h (by simpa using e)
theorem inCut.sto {n : Nat} (h : inCut n ρ) (st : Sto K w σ ρ) : Sto K (w.cut n) σ ρ := ⟨st.len, fun i x e => by
  obtain ⟨v, e1, a⟩ := st.at' i x e
  refine ⟨v, e1, ?_⟩
  cases x with
  | d y => exact a
  | b y => exact a
  | m k =>
    obtain ⟨z, ez, rfl⟩ := a
    refine ⟨z, ?_, rfl⟩
    show (w.α.take n)[k]? = some z
    rw [List.getElem?_take_of_lt (h.get e)]
    exact ez⟩
theorem Step.cut {n : Nat} (s : Step w w') (h : w.α.length ≤ n) : Step w (w'.cut n) := by
  obtain ⟨l, e, hl⟩ := s.al
  refine ⟨s.g, s.b, ⟨l.take (n - w.α.length), ?_, fun a ha => hl a (List.mem_of_mem_take ha)⟩, s.fr, s.gn, s.bn, s.pr⟩
  show w'.α.take n = _
  rw [e, List.take_append, List.take_of_length_le h]
/-- what stands at a turn's end leads to the next turn's word -/
def Wkn (n : Nat) (N : Rho → Mu → Prop) : Rho → Mu → Prop := fun ρ μ => ∃ ρ' μ', WkR ρ ρ' ∧ WkM μ μ' ∧ n ≤ μ'.length ∧ inCut μ'.length ρ' ∧ N ρ' μ'
theorem wkn_ok {n : Nat} {N : Rho → Mu → Prop} (s : Step w w') (hn : n = w.α.length) (ok : WOk K w' μ) (st : Sto K w' σ ρ) (h : Wkn n N ρ μ) : ∃ w2 ρ2 μ2, Step w w2 ∧ WOk K w2 μ2 ∧ Sto K w2 σ ρ2 ∧ w2.H = w'.H ∧ N ρ2 μ2 := by
  obtain ⟨ρ', μ', h1, h2, h3, h4, p⟩ := h
  exact ⟨w'.cut μ'.length, ρ', μ', s.cut (by omega), h2.ok ok, h4.sto (h1.sto st), rfl, p⟩

/-! ### what is walked -/
/-- n turns; at each a value that stands for the word of that turn -/
structure DWalk (K : PySem.W.Frag) (w : Wd) (J : It) (xs : List W) : Prop where
  ex : ∃ (G : Hp → Prop) (Y : Nat → Hp → V → Hp → Prop), Walk J xs.length G Y ∧ (∀ w' μ', Step w w' → WOk K w' μ' → G w'.H) ∧
    ∀ i x w' μ' v H', xs[i]? = some x → Step w w' → WOk K w' μ' → Y i w'.H v H' → ∃ w2, Step w' w2 ∧ WOk K w2 μ' ∧ w2.H = H' ∧ WAt K w2 x v
abbrev DI := Rho → Mu → (List W → Mu → Prop) → PX → Prop
def SimI (K : PySem.W.Frag) (Wx : WX) (wi : TI) (di : DI) : Prop := ∀ {w σ ρ μ P R}, WOk K w μ → Sto K w σ ρ → di ρ μ P R → ∀ {Q : It → Hp → Prop}, (∀ w' μ' J xs, Step w w' → WOk K w' μ' → DWalk K w' J xs → P xs μ' → Q J w'.H) → QX K Wx w σ R → wi σ w.H Q
/-- one set of wishes leads to another -/
structure Dn.Le (d e : Dn) : Prop where
  nx : ∀ ρ μ, d.nx ρ μ → e.nx ρ μ
  rt : ∀ x μ, d.rt x μ → e.rt x μ
  bk : ∀ ρ μ, d.bk ρ μ → e.bk ρ μ
  ct : ∀ ρ μ, d.ct ρ μ → e.ct ρ μ
  xc : ∀ C fs ρ μ, d.xc C fs ρ μ → e.xc C fs ρ μ
theorem Dn.Le.refl {d : Dn} : d.Le d := ⟨fun _ _ h => h, fun _ _ h => h, fun _ _ h => h, fun _ _ h => h, fun _ _ _ _ h => h⟩
theorem EndsOk.le {d e : Dn} {De : Ends} (l : d.Le e) (h : EndsOk K Wx w e De) : EndsOk K Wx w d De := ⟨fun s ok st p => h.nx s ok st (l.nx _ _ p), fun s ok a p => h.rt s ok a (l.rt _ _ p), fun s ok st p => h.bk s ok st (l.bk _ _ p), fun s ok st p => h.ct s ok st (l.ct _ _ p), fun s ok st xa p => h.xc s ok st xa (l.xc _ _ _ _ p)⟩
/-- the wishes of a turn -/
def Dn.turn (d : Dn) (n : Nat) (N : Rho → Mu → Prop) : Dn := { d with nx := Wkn n N, ct := Wkn n N, bk := d.nx }
/-- for: a word of the turn -/
def ForI (xs : List W) (dg : DG) (db : DSt) (d : Dn) (ρ : Rho) (μ : Mu) : Prop := ∃ Inv : Nat → Rho → Mu → Prop, Wkn μ.length (Inv 0) ρ μ ∧
  (∀ i x ρ' μ', xs[i]? = some x → Inv i ρ' μ' → ∃ N, dg x ρ' μ' N ∧ ∀ ρ2 μ2, N ρ2 μ2 → ∃ d', db d' ρ2 μ2 ∧ d'.Le (d.turn μ.length (Inv (i + 1)))) ∧ ∀ ρ' μ', Inv xs.length ρ' μ' → d.nx ρ' μ'
def dFor (di : DI) (dg : DG) (db : DSt) : DSt := fun d ρ μ => di ρ μ (fun xs μ1 => ForI xs dg db d ρ μ1) (d.x ρ)
theorem sim_for {wi : TI} {tg : TG} {tb : TS} {di : DI} {dg : DG} {db : DSt} (hi : SimI K Wx wi di) (hg : SimG K tg dg) (hb : SimS K Wx tb db) : SimS K Wx (tFor wi tg tb) (dFor di dg db) := fun {w σ ρ μ d De} ok st q e =>
  hi ok st q (fun w1 μ1 J xs s1 ok1 dw ⟨Iv, h0, hs, hd⟩ => by
    obtain ⟨G, Y, wk, hG, hY⟩ := dw.ex
    refine for_it wk (fun i σ' H' => ∃ w' ρ' μ', Step w1 w' ∧ WOk K w' μ' ∧ Sto K w' σ' ρ' ∧ w'.H = H' ∧ Iv i ρ' μ') (wkn_ok (.refl _) ok1.len.symm ok1 (st.step s1) h0) (fun i σ' H' _ ⟨w', ρ', μ', s', ok', st', eH, p⟩ => ?_) (fun i v σ' H' H2 hi ⟨w', ρ', μ', s', ok', st', eH, p⟩ y => ?_) (fun σ' H' ⟨w', ρ', μ', s', ok', st', eH, p⟩ => ?_)
    · rw [← eH]
      exact hG w' μ' s' ok'
    · subst eH
      have hx : xs[i]? = some xs[i] := List.getElem?_eq_getElem hi
      obtain ⟨w2, s2, ok2, eH2, a⟩ := hY i _ w' μ' v H2 hx s' ok' y
      subst eH2
      have hn : μ1.length = w1.α.length := ok1.len.symm
      have s12 := s'.trans s2
      obtain ⟨N, hN, kN⟩ := hs i _ ρ' μ' hx p
      refine hg ok2 (st'.step s2) a hN fun w3 μ3 σ3 ρ3 s3 ok3 st3 q3 => ?_
      obtain ⟨d', hd', le⟩ := kN _ _ q3
      refine hb ok3 st3 hd' (EndsOk.le le ⟨fun s4 ok4 st4 z => ?_, fun s4 ok4 a4 z => e.rt (s1.trans (s12.trans (s3.trans s4))) ok4 a4 z, fun s4 ok4 st4 z => e.nx (s1.trans (s12.trans (s3.trans s4))) ok4 st4 z, fun s4 ok4 st4 z => ?_, fun s4 ok4 st4 a4 z => e.xc (s1.trans (s12.trans (s3.trans s4))) ok4 st4 a4 z⟩)
      · obtain ⟨w5, ρ5, μ5, s5, ok5, st5, eH5, p5⟩ := wkn_ok (s12.trans (s3.trans s4)) hn ok4 st4 z
        exact ⟨w5, ρ5, μ5, s5, ok5, st5, eH5, p5⟩
      · obtain ⟨w5, ρ5, μ5, s5, ok5, st5, eH5, p5⟩ := wkn_ok (s12.trans (s3.trans s4)) hn ok4 st4 z
        exact ⟨w5, ρ5, μ5, s5, ok5, st5, eH5, p5⟩
    · subst eH
      exact e.nx (s1.trans s') ok' st' (hd ρ' μ' p)) (e.qx st)
end
end DL

set_option Elab.async false
set_option linter.all false
set_option maxRecDepth 100000
set_option maxHeartbeats 4000000
/-! DL, part six: what is walked; comprehensions. -/
namespace DL
open PySem L2 Evl

section
variable {K : PySem.W.Frag} {Wx : WX} {w w1 w2 w' : Wd} {σ : L2.St} {ρ : Rho} {μ : Mu}
theorem length_items {l : Bool} {ds : List D} : (ds.map (item l)).length = ds.length := by simp
/-- a list or a tuple that does not change -/
def fixOf : W → Option (List D × Bool × Bool)
  | .d (.lst ds) => some (ds, false, true)
  | .d (.scr ds) => some (ds, false, true)
  | .d (.tup ds) => some (ds, false, false)
  | .b (.lst ds) => some (ds, true, true)
  | .b (.tup ds) => some (ds, true, false)
  | _ => none
theorem fixL_ok (ok : WOk K w μ) {x : W} {v : V} {ds : List D} {l : Bool} (h : WAt K w x v) (e : fixOf x = some (ds, l, true)) : ∃ a xs, v = .ref a ∧ SqL K (wH w l) a xs ∧ Ats K (wH w l) ds xs := by
  cases x with
  | d y =>
    cases h with
    | lst h1 h2 => cases e; exact ⟨_, _, rfl, sq_of h1, h2⟩
    | scr h1 h2 => cases e; exact ⟨_, _, rfl, h1, h2⟩
    | tup h1 h2 => cases e
    | v => cases e
    | obj _ _ => cases e
    | dT _ _ => cases e
    | dK _ _ => cases e
    | xc _ _ => cases e
  | b y =>
    cases h with
    | lst h1 h2 => cases e; exact ⟨_, _, rfl, sq_of h1, h2⟩
    | scr h1 h2 => cases e
    | tup h1 h2 => cases e
    | v => cases e
    | obj _ _ => cases e
    | dT _ _ => cases e
    | dK _ _ => cases e
    | xc _ _ => cases e
  | m k => cases e
theorem fixT_ok (ok : WOk K w μ) {x : W} {v : V} {ds : List D} {l : Bool} (h : WAt K w x v) (e : fixOf x = some (ds, l, false)) : ∃ a xs, v = .ref a ∧ SqT K (wH w l) a xs ∧ Ats K (wH w l) ds xs := by
  cases x with
  | d y =>
    cases h with
    | tup h1 h2 => cases e; exact ⟨_, _, rfl, h1, h2⟩
    | lst h1 h2 => cases e
    | scr h1 h2 => cases e
    | v => cases e
    | obj _ _ => cases e
    | dT _ _ => cases e
    | dK _ _ => cases e
    | xc _ _ => cases e
  | b y =>
    cases h with
    | tup h1 h2 => cases e; exact ⟨_, _, rfl, h1, h2⟩
    | lst h1 h2 => cases e
    | scr h1 h2 => cases e
    | v => cases e
    | obj _ _ => cases e
    | dT _ _ => cases e
    | dK _ _ => cases e
    | xc _ _ => cases e
  | m k => cases e
theorem items_get {l : Bool} {ds : List D} {xs : List V} {i : Nat} {x : W} {v : V} (h : Ats K (wH w l) ds xs) (e : (ds.map (item l))[i]? = some x) (e2 : xs[i]? = some v) : WAt K w x v := by
  rw [List.getElem?_map] at e
  cases q : ds[i]? with
  | none => rw [q] at e; cases e
  | some d =>
    rw [q] at e
    cases e
    obtain ⟨u, h1, h2⟩ := h.get q
    rw [e2] at h1
    cases h1
    exact item_at h2
/-- a list -/
def dIL (de : DE) : DI := fun ρ μ P R => de ρ μ (fun x μ' => ∃ ds l, fixOf x = some (ds, l, true) ∧ P (ds.map (item l)) μ') R
/-- a tuple -/
def dIT (de : DE) : DI := fun ρ μ P R => de ρ μ (fun x μ' => ∃ ds l, fixOf x = some (ds, l, false) ∧ P (ds.map (item l)) μ') R
/-- range(n), range(a, b) -/
def rints (lo : Int) (n : Nat) : List W := (List.range n).map fun i => wi (lo + (i : Nat))
theorem rints_len {lo : Int} {n : Nat} : (rints lo n).length = n := by simp [rints]
theorem rints_get {lo : Int} {n i : Nat} {x : W} (h : (rints lo n)[i]? = some x) : x = wi (lo + (i : Nat)) ∧ i < n := by
  unfold rints at h
  rw [List.getElem?_map] at h
  by_cases hi : i < n
  · rw [List.getElem?_range hi] at h
    cases h
    exact ⟨rfl, hi⟩
  · rw [List.getElem?_eq_none (by simp; omega)] at h
    cases h
theorem dw_range {lo : Int} {n : Nat} : DWalk K w (Itr lo n) (rints lo n) := ⟨⟨_, _, by rw [rints_len]; exact walk_range, fun _ _ _ _ => trivial, fun i x w' μ' v H' ex s' ok' y => by
  obtain ⟨rfl, rfl⟩ := y
  obtain ⟨rfl, _⟩ := rints_get ex
  exact ⟨w', .refl _, ok', rfl, .imm⟩⟩⟩
def dIR1 (da : DAr) : DI := fun ρ μ P R => da ρ μ (fun xs μ' => ∃ j, xs = [wi j] ∧ -(2 ^ 62) ≤ j ∧ j < 2 ^ 62 ∧ P (rints 0 j.toNat) μ') R
theorem sim_iR1 {ta : TA} {da : DAr} (h : SimA K Wx ta da) : SimI K Wx (iRng1 ta) (dIR1 da) := fun {w σ ρ μ P R} ok st q {Q} k kx =>
  h ok st q (fun w1 μ1 xs vs s1 ok1 a ⟨j, e, h1, h2, p⟩ => by
    subst e
    obtain ⟨v, rfl, av⟩ := wats1 a
    cases av
    exact ⟨j, rfl, h1, h2, k w1 μ1 _ _ s1 ok1 dw_range p⟩) kx
def dIR2 (da : DAr) : DI := fun ρ μ P R => da ρ μ (fun xs μ' => ∃ i j, xs = [wi i, wi j] ∧ (-(2 ^ 62) ≤ i ∧ i < 2 ^ 62 ∧ -(2 ^ 62) ≤ j ∧ j < 2 ^ 62) ∧ P (rints i (j - i).toNat) μ') R
/-- zip of two lists, of two tuples: new pairs -/
def pairW (l l2 : Bool) (x y : D) : W := if l = false ∧ l2 = false then .d (.tup [x, y]) else .b (.tup [x, y])
def zips (l l2 : Bool) : List D → List D → List W
  | x :: xs, y :: ys => pairW l l2 x y :: zips l l2 xs ys
  | _, _ => []
theorem pair_new {l l2 : Bool} {x y : D} {u v : V} {p : Addr} (ok : WOk K w μ) (hx : At K (wH w l) x u) (hy : At K (wH w l2) y v) (hp : w.H p = none) : ∃ w2, Step w w2 ∧ WOk K w2 μ ∧ w2.H = upd w.H p (.tup [u, v]) ∧ WAt K w2 (pairW l l2 x y) (.ref p) := by
  by_cases hl : l = false ∧ l2 = false
  · obtain ⟨rfl, rfl⟩ := hl
    refine ⟨w.new p (.tup [u, v]), Step.new ok hp, ok.new hp, rfl, .dat (At.tup (st_of upd_same) ?_)⟩
    have e := Ex.new (o := .tup [u, v]) (none_back (ok.gb.trans ok.bh) hp)
    exact .cons (At.mono e hx) (.cons (At.mono e hy) .nil)
  · have up : ∀ {b : Bool}, Ex (wH w b) w.B := fun {b} => by
      cases b with
      | true => exact .refl _
      | false => exact ok.gb
    refine ⟨w.newB p (.tup [u, v]), Step.newB ok hp, ok.newB hp, rfl, ?_⟩
    unfold pairW
    rw [if_neg hl]
    have e := Ex.new (o := .tup [u, v]) (none_back ok.bh hp)
    exact .lent (At.tup (st_of upd_same) (.cons (At.mono (up.trans e) hx) (.cons (At.mono (up.trans e) hy) .nil)))
def dIZ (da : DAr) : DI := fun ρ μ P R => da ρ μ (fun xs μ' => ∃ x y ds es l l2 k, xs = [x, y] ∧ fixOf x = some (ds, l, k) ∧ fixOf y = some (es, l2, k) ∧ P (zips l l2 ds es) μ') R
/-- enumerate of a list -/
def enums (l : Bool) (k : Nat) : List D → List W
  | [] => []
  | x :: xs => pairW false l (.v (.int (k : Nat))) x :: enums l (k + 1) xs
theorem enums_len {l : Bool} : ∀ {xs : List D} {k : Nat}, (enums l k xs).length = xs.length
  | [], _ => rfl
  | _ :: xs, k => by simp [enums, enums_len (xs := xs) (k := k + 1)]
theorem enums_get {l : Bool} : ∀ {xs : List D} {k i : Nat} {w : W}, (enums l k xs)[i]? = some w → ∃ x, xs[i]? = some x ∧ w = pairW false l (.v (.int ((k + i : Nat)))) x
  | [], _, _, _, e => by simp [enums] at e
  | x :: xs, k, 0, _, e => by
    simp [enums] at e
    exact ⟨x, rfl, e.symm⟩
  | x :: xs, k, i + 1, _, e => by
    simp [enums] at e
    obtain ⟨y, h1, h2⟩ := enums_get e
    exact ⟨y, by simpa using h1, by rw [h2, show k + 1 + i = k + (i + 1) by omega]⟩
def dIE (da : DAr) : DI := fun ρ μ P R => da ρ μ (fun xs μ' => ∃ x ds l, xs = [x] ∧ fixOf x = some (ds, l, true) ∧ P (enums l 0 ds) μ') R
theorem sim_iE {ta : TA} {da : DAr} (h : SimA K Wx ta da) : SimI K Wx (iEnum K ta) (dIE da) := fun {w σ ρ μ P R} ok st q {Q} k kx =>
  h ok st q (fun w1 μ1 xs vs s1 ok1 a ⟨x, ds, l, e, ex, p⟩ => by
    subst e
    obtain ⟨v, rfl, av⟩ := wats1 a
    obtain ⟨b, us, rfl, h1, h2⟩ := fixL_ok ok1 av ex
    refine ⟨b, us, rfl, ex_l (wH_ex ok1) h1, k w1 μ1 _ _ s1 ok1 ⟨⟨_, _, by rw [enums_len, h2.length]; exact walk_enum (K := K) (a := b) (xs := us), fun w' μ' s' ok' => ex_l ((wH_step s').trans (wH_ex ok')) h1, fun i x w' μ' v H' ex s' ok' y => ?_⟩⟩ p⟩
    obtain ⟨T, g, z, rfl, hT, rfl, e1, e2⟩ := y
    obtain ⟨d, q1, rfl⟩ := enums_get ex
    obtain ⟨z', r3, r4⟩ := h2.get q1
    have f1 : some (V.int (i : Nat)) = some g := e1
    have f2 : some z = some z' := e2.symm.trans r3
    cases f1
    cases f2
    rw [Nat.zero_add]
    exact pair_new ok' (At.v _) (At.mono (wH_step s') r4) hT) kx

/-! ### list comprehensions -/
/-- the names of a comprehension are its own -/
def wipeW (ρ : Rho) : List Nat → Rho
  | [] => ρ
  | i :: r => (wipeW ρ r).set i none
theorem Sto.setN {i : Nat} (h : Sto K w σ ρ) : Sto K w (σ.set i none) (ρ.set i none) := ⟨by simp [h.len], fun j x e => by
  by_cases hj : i = j
  · subst hj
    by_cases hl : i < ρ.length
    · rw [List.getElem?_set_self hl] at e
      cases e
    · rw [List.getElem?_eq_none (by simp; omega)] at e
      cases e
  · rw [List.getElem?_set_ne hj] at e
    obtain ⟨v, h1, h2⟩ := h.at' j x e
    exact ⟨v, by rw [List.getElem?_set_ne hj]; exact h1, h2⟩⟩
theorem wipe_sto (h : Sto K w σ ρ) : ∀ {vs : List Nat}, Sto K w (wipe σ vs) (wipeW ρ vs)
  | [] => h
  | i :: r => (wipe_sto h (vs := r)).setN
abbrev DTs := DTe
/-- tests of a comprehension -/
def dYes : DTe := fun _ μ P _ => P true μ
theorem sim_yes : SimT K Wx tYes dYes := fun ok st h _ q _ => q _ _ _ (.refl _) ok h
/-- a target of names touches the slots named: wiping forgets them -/
def Wipes (tg : TG) (vs : List Nat) : Prop := ∀ (v : V) (σ : L2.St) (H : Hp) (Q : L2.St → Hp → Prop), tg v σ H Q → tg v σ H fun σ2 H2 => wipe σ2 vs = wipe σ vs ∧ Q σ2 H2
def WipesS (tg : TGs) (vs : List Nat) : Prop := ∀ (v : List V) (σ : L2.St) (H : Hp) (Q : L2.St → Hp → Prop), tg v σ H Q → tg v σ H fun σ2 H2 => wipe σ2 vs = wipe σ vs ∧ Q σ2 H2
theorem wipe_get {σ : L2.St} {j : Nat} : ∀ {vs : List Nat}, (wipe σ vs)[j]? = if j ∈ vs ∧ j < σ.length then some none else σ[j]?
  | [] => by simp [wipe]
  | i :: r => by
    show ((wipe σ r).set i none)[j]? = _
    by_cases hj : i = j
    · subst hj
      by_cases hl : i < σ.length
      · rw [List.getElem?_set_self (by rw [wipe_length]; exact hl), if_pos ⟨by simp, hl⟩]
      · rw [List.getElem?_eq_none (by simp [wipe_length]; omega), if_neg (by omega), List.getElem?_eq_none (by omega)]
    · rw [List.getElem?_set_ne hj, wipe_get (vs := r)]
      by_cases hm : j ∈ r ∧ j < σ.length
      · rw [if_pos hm, if_pos ⟨by simp [hm.1], hm.2⟩]
      · rw [if_neg hm, if_neg (fun z => hm ⟨by
          rcases List.mem_cons.mp z.1 with q | q
          · exact absurd q.symm hj
          · exact q, z.2⟩)]
theorem wipe_set {vs : List Nat} {σ : L2.St} {i : Nat} {x : Option V} (h : i ∈ vs) : wipe (σ.set i x) vs = wipe σ vs := by
  apply List.ext_getElem?
  intro j
  rw [wipe_get, wipe_get, List.length_set]
  by_cases hm : j ∈ vs ∧ j < σ.length
  · rw [if_pos hm, if_pos hm]
  · rw [if_neg hm, if_neg hm]
    by_cases e : i = j
    · subst e
      have hl : ¬ i < σ.length := fun z => hm ⟨h, z⟩
      rw [List.getElem?_eq_none (by simp; omega), List.getElem?_eq_none (by omega)]
    · rw [List.getElem?_set_ne e]
theorem wipes_name {i : Nat} {vs : List Nat} (h : i ∈ vs) : Wipes (gName i) vs := fun v σ H Q q => ⟨wipe_set h, q⟩
theorem wipes_nil {vs : List Nat} : WipesS gNil vs := fun v σ H Q q => ⟨q.1, rfl, q.2⟩
theorem wipes_cons {tg : TG} {tr : TGs} {vs : List Nat} (mono : ∀ v σ H (Q Q' : L2.St → Hp → Prop), (∀ a b, Q a b → Q' a b) → tg v σ H Q → tg v σ H Q') (monoS : ∀ v σ H (Q Q' : L2.St → Hp → Prop), (∀ a b, Q a b → Q' a b) → tr v σ H Q → tr v σ H Q') (h : Wipes tg vs) (h' : WipesS tr vs) : WipesS (gCons tg tr) vs := fun v σ H Q q => by
  obtain ⟨x, r, e, q⟩ := q
  refine ⟨x, r, e, mono _ _ _ _ _ (fun a b z => ?_) (h x σ H _ q)⟩
  exact monoS _ _ _ _ _ (fun a' b' z' => ⟨z'.1.trans z.1, z'.2⟩) (h' r a b Q z.2)
theorem wipes_tup {n : Nat} {tr : TGs} {vs : List Nat} (h : WipesS tr vs) : Wipes (gTup K n tr) vs := fun v σ H Q q => by
  obtain ⟨a, xs, e, h1, h2, q⟩ := q
  exact ⟨a, xs, e, h1, h2, h xs σ H Q q⟩
/-- what stands behind an item: it is told as a datum, things made on the way are let go -/
def LcEnd (n : Nat) (y : W) (μ : Mu) (N : D → Mu → Prop) : Prop := ∃ z, y = .d z ∧ ∃ μ', WkM μ μ' ∧ n ≤ μ'.length ∧ N z μ'
def LcOff (n : Nat) (μ : Mu) (N : Mu → Prop) : Prop := ∃ μ', WkM μ μ' ∧ n ≤ μ'.length ∧ N μ'
abbrev noX : PX := fun _ _ _ => False
/-- the list so far by the number of the turn -/
def LcI (xs : List W) (dg : DG) (dt : DTe) (de : DE) (vs : List Nat) (ρ : Rho) (μ : Mu) (P : PN) : Prop := small xs.length ∧ ∃ Inv : Nat → List D → Mu → Prop, Inv 0 [] μ ∧
  (∀ i x acc μ2, xs[i]? = some x → acc.length ≤ i → Inv i acc μ2 → ∃ N, dg x (wipeW ρ vs) μ2 N ∧ ∀ ρ3 μ3, N ρ3 μ3 → ∃ M, dt ρ3 μ3 M noX ∧ ∀ b μ4, M b μ4 →
    (b = true → ∃ P', de ρ3 μ4 P' noX ∧ ∀ y μ5, P' y μ5 → LcEnd μ.length y μ5 fun z μ6 => Inv (i + 1) (acc ++ [z]) μ6) ∧ (b = false → LcOff μ.length μ4 fun μ6 => Inv (i + 1) acc μ6)) ∧
  ∀ acc μ2, acc.length ≤ xs.length → Inv xs.length acc μ2 → newLst acc μ2 P
def dLc (di : DI) (dg : DG) (dt : DTe) (de : DE) (vs : List Nat) : DE := fun ρ μ P R => di ρ μ (fun xs μ1 => LcI xs dg dt de vs ρ μ1 P) R
abbrev WF : WX := fun _ _ _ _ => False
/-- a world beside which another object is changed -/
theorem WOk.poke {p : Addr} {o : HO} (ok : WOk K w μ) (hb : w.B p = none) (ha : p ∉ w.α) : WOk K (w.put p o) μ := by
  refine ⟨ok.gb, fun b q h => ?_, ok.nd, ok.len, fun j a z h1 h2 => ?_, fun a h => ?_⟩
  · show upd w.H p o b = _
    rw [upd_ne (ne_of_none h hb)]
    exact ok.bh b q h
  · have na : a ≠ p := fun e => ha (by rw [← e]; exact List.mem_of_getElem? h1)
    exact MOk.step_ne (w := w) (.refl _) id (by show upd w.H p o a = _; rw [upd_ne na]) (ok.mu j a z h1 h2)
  · show upd w.H p o a ≠ none
    rw [upd_ne (fun e => ha (by rw [← e]; exact h))]
    exact ok.has a h
theorem Step.poke {p : Addr} {o : HO} (s : Step w w') (hp : w.H p = none) : Step w (w'.put p o) := by
  refine ⟨s.g, s.b, s.al, fun b u hb h => ?_, s.gn, s.bn, fun b h => ?_⟩
  · show upd w'.H p o b = _
    rw [upd_ne (ne_of_none h hp)]
    exact s.fr b u hb h
  · by_cases e : b = p
    · rw [e]
      exact hp
    · have h' : upd w'.H p o b = none := h
      rw [upd_ne e] at h'
      exact s.pr b h'
/-- an object beside the world is taken into it, for good or as a thing that changes -/
def Wd.own (w : Wd) (p : Addr) (o : HO) : Wd := ⟨upd w.G p o, upd w.B p o, w.H, w.α⟩
theorem WOk.own {p : Addr} {o : HO} (ok : WOk K w μ) (hb : w.B p = none) (ha : p ∉ w.α) (hp : w.H p = some o) : WOk K (w.own p o) μ := by
  refine ⟨upd_ex ok.gb, fun b q h => ?_, ok.nd, ok.len, fun j a z h1 h2 => ?_, ok.has⟩
  · by_cases e : b = p
    · have h' : upd w.B p o b = some q := h
      rw [e, upd_same] at h'
      cases h'
      rw [e]
      exact hp
    · have h' : upd w.B p o b = some q := h
      rw [upd_ne e] at h'
      exact ok.bh b q h'
  · have na : a ≠ p := fun e => ha (by rw [← e]; exact List.mem_of_getElem? h1)
    exact MOk.step_ne (w := w) (Ex.new (none_back ok.gb hb)) (fun z => by show upd w.B p o a = none; rw [upd_ne na]; exact z) rfl (ok.mu j a z h1 h2)
theorem Step.own {p : Addr} {o : HO} (s : Step w w') (hp : w.H p = none) (hg : w'.G p = none) (hb : w'.B p = none) : Step w (w'.own p o) := by
  refine ⟨s.g.trans (Ex.new hg), s.b.trans (Ex.new hb), s.al, s.fr, fun b h => ?_, fun b h => ?_, s.pr⟩
  · by_cases e : b = p
    · exact .inr (.inl (by rw [e]; exact hp))
    · refine s.gn b (fun z => h ?_)
      show upd w'.G p o b = none
      rw [upd_ne e]
      exact z
  · by_cases e : b = p
    · exact .inr (.inl (by rw [e]; exact hp))
    · refine s.bn b (fun z => h ?_)
      show upd w'.B p o b = none
      rw [upd_ne e]
      exact z
def Wd.take (w : Wd) (p : Addr) : Wd := ⟨w.G, w.B, w.H, w.α ++ [p]⟩
theorem WOk.take {p : Addr} {u : MO} (ok : WOk K w μ) (ha : p ∉ w.α) (hp : w.H p ≠ none) (hu : MOk K w p u) : WOk K (w.take p) (μ ++ [u]) := by
  refine ⟨ok.gb, ok.bh, ?_, by simp [Wd.take, ok.len], fun k a z h1 h2 => ?_, fun a h => ?_⟩
  · show (w.α ++ [p]).Nodup
    rw [List.nodup_append]
    refine ⟨ok.nd, by simp, fun a h b hb => ?_⟩
    rw [List.mem_singleton] at hb
    rw [hb]
    exact fun e => ha (by rw [← e]; exact h)
  · have h1' : (w.α ++ [p])[k]? = some a := h1
    by_cases hk : k < w.α.length
    · rw [List.getElem?_append_left hk] at h1'
      rw [List.getElem?_append_left (by rw [← ok.len]; exact hk)] at h2
      exact MOk.step_ne (w := w) (.refl _) id rfl (ok.mu k a z h1' h2)
    · have ek : k = w.α.length := by
        have := (List.getElem?_eq_some_iff.mp h1').1
        simp at this
        omega
      subst ek
      simp at h1'
      rw [ok.len] at h2
      simp at h2
      subst h1' h2
      exact MOk.step_ne (w := w) (.refl _) id rfl hu
  · rcases List.mem_append.mp (show a ∈ w.α ++ [p] from h) with h | h
    · exact ok.has a h
    · rw [List.mem_singleton.mp h]
      exact hp
theorem Step.take {p : Addr} (s : Step w w') (hp : w.H p = none) : Step w (w'.take p) := by
  obtain ⟨l, e, hl⟩ := s.al
  refine ⟨s.g, s.b, ⟨l ++ [p], by show w'.α ++ [p] = _; rw [e, List.append_assoc], fun a ha => ?_⟩, s.fr, s.gn, s.bn, s.pr⟩
  rcases List.mem_append.mp ha with h | h
  · exact hl a h
  · rw [List.mem_singleton.mp h]
    exact hp
theorem WAt.took {p : Addr} (ok : WOk K w μ) : WAt K (w.take p) (.m μ.length) (.ref p) := ⟨p, by
  show (w.α ++ [p])[μ.length]? = some p
  rw [← ok.len]
  simp, rfl⟩
theorem Step.out (s : Step w w') {p : Addr} (hp : w.H p = none ∨ w.H p ≠ none ∧ p ∉ w.α) (h : w.H p ≠ none) (ha : p ∉ w.α) : p ∉ w'.α := by
  obtain ⟨l, e, hl⟩ := s.al
  rw [e]
  intro z
  rcases List.mem_append.mp z with z | z
  · exact ha z
  · exact h (hl p z)
theorem wipe_idem {σ : L2.St} {vs : List Nat} : wipe (wipe σ vs) vs = wipe σ vs := by
  apply List.ext_getElem?
  intro j
  rw [wipe_get, wipe_length, wipe_get]
  by_cases hm : j ∈ vs ∧ j < σ.length
  · rw [if_pos hm, if_pos hm]
  · rw [if_neg hm]
theorem Step.noB (s : Step w w') {p : Addr} {us : List V} (h : w.B p = none) (hh : w.H p = some (.lst us)) (ha : p ∉ w.α) : w'.B p = none := by
  by_cases z : w'.B p = none
  · exact z
  · rcases s.bn p z with q | q | q | q
    · exact absurd h q
    · rw [hh] at q
      cases q
    · exact absurd q ha
    · obtain ⟨xs, q⟩ := q
      rw [hh] at q
      cases q
/-- a comprehension's state: the list so far stands beside the world -/
def LcS (K : PySem.W.Frag) (w1 : Wd) (D : Addr) (Iv : Nat → List DL.D → Mu → Prop) (i : Nat) (H' : Hp) : Prop :=
  ∃ w' μ2 acc us, Step w1 w' ∧ WOk K w' μ2 ∧ w'.H = H' ∧ H' D = some (.lst us) ∧ Ats K w'.G acc us ∧ w'.B D = none ∧ D ∉ w'.α ∧ acc.length ≤ i ∧ Iv i acc μ2
theorem WkM.cutB {μ' : Mu} {p : Addr} (h : p ∉ w.α) : p ∉ (w.cut μ'.length).α := fun z => h (List.mem_of_mem_take z)
theorem sim_lc {wi : TI} {tg : TG} {tt : TT} {te : TE} {di : DI} {dg : DG} {dt : DTe} {de : DE} {vs : List Nat} (hi : SimI K Wx wi di) (hg : SimG K tg dg) (hw : Wipes tg vs) (ht : SimT K WF tt dt) (he : Sim K WF te de) : Sim K Wx (tLc wi tg tt te vs) (dLc di dg dt de vs) := fun {w σ ρ μ P R} ok st q {Q} qn qx =>
  hi ok st q (fun w1 μ1 J xs s1 ok1 dw ⟨hz, Iv, h0, hs, hd⟩ D hD => by
    obtain ⟨G, Y, wk, hG, hY⟩ := dw.ex
    have hB1 : w1.B D = none := none_back ok1.bh hD
    have hA1 : D ∉ w1.α := fun z => ok1.has D z hD
    refine lc_it wk (LcS K w1 D Iv) ?_ (fun i H' _ ⟨w', μ2, acc, us, s', ok', eH, e1, e2, e3, e4, e5, p⟩ => ?_) (fun i v H' H2 hi ⟨w', μ2, acc, us, s', ok', eH, e1, e2, e3, e4, e5, p⟩ y => ?_) (fun H' ⟨w', μ2, acc, us, s', ok', eH, e1, e2, e3, e4, e5, p⟩ => ?_)
    · exact ⟨w1.put D (.lst []), μ1, [], [], (Step.refl w1).poke hD, ok1.poke hB1 hA1, rfl, upd_same, .nil, hB1, hA1, by simp, h0⟩
    · rw [← eH]
      exact hG w' μ2 s' ok'
    · subst eH
      have hx : xs[i]? = some xs[i] := List.getElem?_eq_getElem hi
      have tD : w'.H D ≠ none := by rw [e1]; simp
      obtain ⟨w2, s2, ok2, eH2, a⟩ := hY i _ w' μ2 v H2 hx s' ok' y
      subst eH2
      have s12 := s'.trans s2
      obtain ⟨N, hN, kN⟩ := hs i _ acc μ2 hx e5 p
      have key := hw v _ _ _ (hg (Q := fun σ2 H2 => tt σ2 H2 fun b H3 => if b = true then te σ2 H3 fun y H4 => ∃ acc, H4 D = some (.lst acc) ∧ acc.length < sizeLine ∧ LcS K w1 D Iv (i + 1) (upd H4 D (.lst (acc ++ [y]))) else LcS K w1 D Iv (i + 1) H3) ok2 (wipe_sto ((st.step s1).step s12)) a hN fun w3 μ3 σ3 ρ3 s3 ok3 st3 q3 => ?_)
      · rw [wipe_idem] at key
        exact key
      obtain ⟨M, hM, kM⟩ := kN _ _ q3
      refine ht ok3 st3 hM (fun w4 μ4 b s4 ok4 hb => ?_) (fun _ _ _ _ _ _ _ _ z => z.elim)
      obtain ⟨pt, pf⟩ := kM _ _ hb
      have s4' : Step w' w4 := s2.trans (s3.trans s4)
      cases b with
      | true =>
        obtain ⟨P', hP, kP⟩ := pt rfl
        refine iteT (he ok4 (st3.step s4) hP (fun w5 μ5 y u s5 ok5 ay hy => ?_) (fun _ _ _ _ _ _ _ _ z => z.elim))
        obtain ⟨z, ey, μ6, hk, hl, p6⟩ := kP _ _ hy
        subst ey
        have s5' : Step w' w5 := s4'.trans s5
        have f1 := s5'.fr D _ e4 e1
        have f2 := s5'.out (.inr ⟨tD, e4⟩) tD e4
        have f3 := s5'.noB e3 e1 e4
        have f4 := e2.mono s5'.g
        refine ⟨us, f1, small_lt ?_, (w5.put D (.lst (us ++ [u]))).cut μ6.length, μ6, acc ++ [z], us ++ [u], ?_, hk.ok (ok5.poke f3 f2), rfl, upd_same, f4.append (.cons ay .nil), f3, WkM.cutB (μ' := μ6) (w := w5.put D (.lst (us ++ [u]))) f2, by simp; omega, p6⟩
        · unfold small at *
          have := e2.length
          omega
        · exact ((s'.trans s5').poke hD).cut (by rw [ok1.len]; exact hl)
      | false =>
        obtain ⟨μ6, hk, hl, p6⟩ := pf rfl
        exact iteF ⟨w4.cut μ6.length, μ6, acc, us, (s'.trans s4').cut (by rw [ok1.len]; exact hl), hk.ok ok4, rfl, s4'.fr D _ e4 e1, e2.mono s4'.g, s4'.noB e3 e1 e4, WkM.cutB (μ' := μ6) (s4'.out (.inr ⟨tD, e4⟩) tD e4), by omega, p6⟩
    · subst eH
      have q2 := hd acc μ2 e5 p
      have hG' : w'.G D = none := none_back ok'.gb e3
      rcases q2 with q2 | q2
      · exact qn (w'.own D (.lst us)) μ2 _ _ (s1.trans (s'.own hD hG' e3)) (ok'.own e3 e4 e1) (.dat (At.lst upd_same (e2.mono (Ex.new hG')))) q2
      · refine qn (w'.take D) _ _ _ (s1.trans (s'.take hD)) (ok'.take (u := .lst acc) e4 (by rw [e1]; simp) ⟨e3, us, e1, e2⟩) (WAt.took ok') q2) qx
end
end DL

set_option Elab.async false
set_option linter.all false
set_option maxRecDepth 100000
set_option maxHeartbeats 4000000
/-! DL, part seven: promises of defs, calls. -/
namespace DL
open PySem L2 Evl

/-- a promise by data: the arguments, the things that change that are handed over, what is wanted of the answer and of an exception -/
abbrev FS := List W → Mu → PN → PX → Prop
def toSp (K : PySem.W.Frag) (fs : FS) : Sp := fun vs H Q E => ∃ w μ xs P R, w.H = H ∧ WOk K w μ ∧ WAts K w xs vs ∧ fs xs μ P R ∧ QN K w P Q ∧ (∀ w' μ' C d gs, Step w w' → WOk K w' μ' → XAt K w' d gs → R C gs μ' → E (.ref C) d w'.H)

/-- how an argument is handed over -/
inductive PassA (μ : Mu) (is ls : List Nat) : W → W → Prop
  | d (x : D) : PassA μ is ls (.d x) (.d x)
  | b (x : D) : PassA μ is ls (.b x) (.b x)
  | m {j k : Nat} : is[j]? = some k → PassA μ is ls (.m k) (.m j)
  | l {k : Nat} {ds : List D} : k ∈ ls → μ[k]? = some (.lst ds) → PassA μ is ls (.m k) (.b (.lst ds))
inductive PassAs (μ : Mu) (is ls : List Nat) : List W → List W → Prop
  | nil : PassAs μ is ls [] []
  | cons {x y : W} {xs ys : List W} : PassA μ is ls x y → PassAs μ is ls xs ys → PassAs μ is ls (x :: xs) (y :: ys)
/-- the caller's things behind the call -/
def merge (μ : Mu) : List Nat → Mu → Mu
  | [], ν => μ ++ ν
  | k :: is, o :: ν => merge (μ.set k o) is ν
  | _ :: _, [] => μ
def backW (n : Nat) (is : List Nat) : W → W
  | .m j => match is[j]? with
    | some k => .m k
    | none => .m (n + (j - is.length))
  | x => x
def noB : W → Prop
  | .b _ => False
  | _ => True
/-- the call at the level of data: is: the things handed over to be changed, ls: the lists that are lent -/
def CallW (fs : FS) (xs : List W) (μ : Mu) (P : PN) (R : PX) : Prop := ∃ (is ls : List Nat) (ys : List W) (P' : PN) (R' : PX), is.Nodup ∧ (∀ k ∈ is, k < μ.length) ∧ (∀ k ∈ ls, k ∉ is ∧ ∃ ds, μ[k]? = some (.lst ds)) ∧ PassAs μ is ls xs ys ∧
  fs ys (is.map fun k => μ.getD k .dead) P' R' ∧ (∀ x ν, is.length ≤ ν.length → P' x ν → noB x ∧ P (backW μ.length is x) (merge μ is ν)) ∧ (∀ C gs ν, is.length ≤ ν.length → R' C gs ν → R C gs (merge μ is ν))
section
variable {K : PySem.W.Frag} {Wx : WX} {w w1 w2 w' : Wd} {σ : L2.St} {ρ : Rho} {μ : Mu}
theorem merge_len : ∀ {is : List Nat} {μ ν : Mu}, is.length ≤ ν.length → (merge μ is ν).length = μ.length + (ν.length - is.length)
  | [], μ, ν, _ => by simp [merge]
  | k :: is, μ, o :: ν, h => by
    simp [merge]
    rw [merge_len (by simpa using h)]
    simp
  | _ :: _, μ, [], h => by simp at h
theorem merge_new : ∀ {is : List Nat} {μ ν : Mu} {j : Nat}, is.length ≤ ν.length → (merge μ is ν)[μ.length + j]? = ν[is.length + j]?
  | [], μ, ν, j, _ => by simp [merge, List.getElem?_append_right]
  | k :: is, μ, o :: ν, j, h => by
    simp only [merge]
    have := merge_new (is := is) (μ := μ.set k o) (ν := ν) (j := j) (by simpa using h)
    rw [List.length_set] at this
    rw [this]
    simp only [List.length_cons]
    rw [show is.length + 1 + j = (is.length + j) + 1 by omega, List.getElem?_cons_succ]
  | _ :: _, μ, [], _, h => by simp at h
theorem merge_old : ∀ {is : List Nat} {μ ν : Mu} {k : Nat}, is.length ≤ ν.length → k ∉ is → k < μ.length → (merge μ is ν)[k]? = μ[k]?
  | [], μ, ν, k, _, _, h => by simp [merge, List.getElem?_append_left h]
  | i :: is, μ, o :: ν, k, hl, hk, h => by
    simp only [merge]
    have hk' : k ≠ i ∧ k ∉ is := by simpa using hk
    rw [merge_old (by simpa using hl) hk'.2 (by simpa using h), List.getElem?_set_ne hk'.1.symm]
  | _ :: _, μ, [], _, h, _, _ => by simp at h
theorem merge_is : ∀ {is : List Nat} {μ ν : Mu} {j k : Nat}, is.Nodup → (∀ i ∈ is, i < μ.length) → is.length ≤ ν.length → is[j]? = some k → (merge μ is ν)[k]? = ν[j]?
  | [], _, _, _, _, _, _, _, e => by simp at e
  | i :: is, μ, o :: ν, 0, k, hn, hb, hl, e => by
    simp at e
    subst e
    simp only [merge]
    have hn' := List.nodup_cons.mp hn
    rw [merge_old (by simpa using hl) hn'.1 (by simpa using hb i (by simp)), List.getElem?_set_self (hb i (by simp))]
    simp
  | i :: is, μ, o :: ν, j + 1, k, hn, hb, hl, e => by
    simp only [merge]
    have hn' := List.nodup_cons.mp hn
    rw [merge_is (μ := μ.set i o) (ν := ν) (j := j) hn'.2 (fun a ha => by simpa using hb a (by simp [ha])) (by simpa using hl) (by simpa using e)]
    simp
  | _ :: _, μ, [], _, _, _, _, h, _ => by simp at h
/-- the callee's world -/
def Wd.lendW (w : Wd) (is ls : List Nat) : Wd := ⟨w.G, fun b => if ∃ k ∈ ls, w.α[k]? = some b then w.H b else w.B b, w.H, is.filterMap fun k => w.α[k]?⟩
theorem fm_len {is : List Nat} (h : ∀ k ∈ is, k < w.α.length) : ∀ j : Nat, (is.filterMap fun k => w.α[k]?)[j]? = (is[j]?).bind fun k => w.α[k]? := by
  induction is with
  | nil => intro j; simp
  | cons k r ih =>
    intro j
    have hk := h k (by simp)
    have e : w.α[k]? = some w.α[k] := List.getElem?_eq_getElem hk
    rw [List.filterMap_cons, e]
    cases j with
    | zero => simp [e]
    | succ j => simpa using ih (fun a ha => h a (by simp [ha])) j
theorem fm_length {is : List Nat} (h : ∀ k ∈ is, k < w.α.length) : (is.filterMap fun k => w.α[k]?).length = is.length := by
  induction is with
  | nil => simp
  | cons k r ih =>
    have hk := h k (by simp)
    have e : w.α[k]? = some w.α[k] := List.getElem?_eq_getElem hk
    rw [List.filterMap_cons, e]
    simp [ih fun a ha => h a (by simp [ha])]
theorem al_inj (ok : WOk K w μ) {j k : Nat} {a : Addr} (h1 : w.α[j]? = some a) (h2 : w.α[k]? = some a) : j = k := by
  obtain ⟨l1, e1⟩ := List.getElem?_eq_some_iff.mp h1
  obtain ⟨l2, e2⟩ := List.getElem?_eq_some_iff.mp h2
  exact (List.getElem_inj ok.nd).mp (e1.trans e2.symm)
theorem fm_nodup (ok : WOk K w μ) {is : List Nat} (hn : is.Nodup) : (is.filterMap fun k => w.α[k]?).Nodup := by
  induction is with
  | nil => simp
  | cons k r ih =>
    have hn' := List.nodup_cons.mp hn
    rw [List.filterMap_cons]
    cases e : w.α[k]? with
    | none => exact ih hn'.2
    | some a =>
      refine List.nodup_cons.mpr ⟨fun z => ?_, ih hn'.2⟩
      obtain ⟨i, hi, ei⟩ := List.mem_filterMap.mp z
      exact hn'.1 (by rw [al_inj ok e ei]; exact hi)
theorem fm_mem (is : List Nat) {b : Addr} (h : b ∈ is.filterMap fun k => w.α[k]?) : ∃ k ∈ is, w.α[k]? = some b := List.mem_filterMap.mp h
theorem lend_ok (ok : WOk K w μ) {is ls : List Nat} (hn : is.Nodup) (hb : ∀ k ∈ is, k < μ.length) (hl : ∀ k ∈ ls, k ∉ is ∧ ∃ ds, μ[k]? = some (.lst ds)) : WOk K (w.lendW is ls) (is.map fun k => μ.getD k .dead) ∧ Ex w.B (w.lendW is ls).B := by
  have lent : ∀ b, (∃ k ∈ ls, w.α[k]? = some b) → w.B b = none := fun b ⟨k, hk, e⟩ => by
    obtain ⟨_, ds, hm⟩ := hl k hk
    exact (ok.mu k b _ e hm).1
  have hbα : ∀ k ∈ is, k < w.α.length := fun k hk => by rw [ok.len]; exact hb k hk
  have eB : Ex w.B (w.lendW is ls).B := fun b o h => by
    show (if ∃ k ∈ ls, w.α[k]? = some b then w.H b else w.B b) = _
    rw [if_neg (fun z => by rw [lent b z] at h; cases h)]
    exact h
  refine ⟨⟨ok.gb.trans eB, fun b o h => ?_, fm_nodup ok hn, ?_, fun j a o h1 h2 => ?_, fun a h => ?_⟩, eB⟩
  · have h' : (if ∃ k ∈ ls, w.α[k]? = some b then w.H b else w.B b) = some o := h
    by_cases z : ∃ k ∈ ls, w.α[k]? = some b
    · rw [if_pos z] at h'
      exact h'
    · rw [if_neg z] at h'
      exact ok.bh b o h'
  · show (is.filterMap _).length = _
    rw [fm_length hbα, List.length_map]
  · have h1' : (is.filterMap fun k => w.α[k]?)[j]? = some a := h1
    rw [fm_len hbα] at h1'
    rw [List.getElem?_map] at h2
    cases e : is[j]? with
    | none => rw [e] at h1'; cases h1'
    | some k =>
      rw [e] at h1' h2
      have h1k : w.α[k]? = some a := h1'
      have hk := hb k (List.mem_of_getElem? e)
      have em : μ[k]? = some o := by
        have : o = μ.getD k .dead := by simpa using h2.symm
        rw [this, List.getD_eq_getElem?_getD, List.getElem?_eq_getElem hk]
        rfl
      refine MOk.step_ne (w := w) (.refl _) (fun z => ?_) rfl (ok.mu k a o h1k em)
      show (if ∃ k ∈ ls, w.α[k]? = some a then w.H a else w.B a) = none
      rw [if_neg]
      · exact z
      · rintro ⟨i, hi, ei⟩
        have := al_inj ok ei h1k
        subst this
        exact (hl i hi).1 (List.mem_of_getElem? e)
  · obtain ⟨k, _, e⟩ := fm_mem is h
    exact ok.has a (List.mem_of_getElem? e)
theorem pass_ok (ok : WOk K w μ) {is ls : List Nat} (hb : ∀ k ∈ is, k < μ.length) (eB : Ex w.B (w.lendW is ls).B) {x y : W} {v : V} (p : PassA μ is ls x y) (h : WAt K w x v) : WAt K (w.lendW is ls) y v := by
  cases p with
  | d x => exact h
  | b x => exact At.mono eB h
  | @m j k e =>
    obtain ⟨a, h1, rfl⟩ := h
    refine ⟨a, ?_, rfl⟩
    show (is.filterMap fun k => w.α[k]?)[j]? = some a
    rw [fm_len (fun k hk => by rw [ok.len]; exact hb k hk), e]
    exact h1
  | @l k ds hk e =>
    obtain ⟨a, h1, rfl⟩ := h
    obtain ⟨_, xs, h2, h3⟩ := ok.mu k a _ h1 e
    refine WAt.lent (At.lst (xs := xs) ?_ (h3.mono (ok.gb.trans eB)))
    show (if ∃ k ∈ ls, w.α[k]? = some a then w.H a else w.B a) = _
    rw [if_pos ⟨k, hk, h1⟩]
    exact h2
theorem passes_ok (ok : WOk K w μ) {is ls : List Nat} (hb : ∀ k ∈ is, k < μ.length) (eB : Ex w.B (w.lendW is ls).B) : ∀ {xs ys : List W} {vs : List V}, PassAs μ is ls xs ys → WAts K w xs vs → WAts K (w.lendW is ls) ys vs
  | _, _, _, .nil, .nil => .nil
  | _, _, _, .cons p ps, .cons a as => .cons (pass_ok ok hb eB p a) (passes_ok ok hb eB ps as)
/-- the caller's world behind the call -/
def Wd.backW (w c : Wd) (n : Nat) : Wd := ⟨c.G, fun b => if c.G b = none then w.B b else c.G b, c.H, w.α ++ c.α.drop n⟩
theorem back_ok (ok : WOk K w μ) {is ls : List Nat} (hn : is.Nodup) (hb : ∀ k ∈ is, k < μ.length) (hl : ∀ k ∈ ls, k ∉ is ∧ ∃ ds, μ[k]? = some (.lst ds)) {c : Wd} {ν : Mu} (s : Step (w.lendW is ls) c) (okc : WOk K c ν) :
    is.length ≤ ν.length ∧ Step w (w.backW c is.length) ∧ WOk K (w.backW c is.length) (merge μ is ν) := by
  obtain ⟨okl, eB⟩ := lend_ok ok hn hb hl
  have hbα : ∀ k ∈ is, k < w.α.length := fun k hk => by rw [ok.len]; exact hb k hk
  obtain ⟨new, eα, fresh⟩ := s.al
  have eα' : c.α = (is.filterMap fun k => w.α[k]?) ++ new := eα
  have lenl : (is.filterMap fun k => w.α[k]?).length = is.length := fm_length hbα
  have dropα : c.α.drop is.length = new := by
    rw [eα', ← lenl]
    simp
  have hlen : is.length ≤ ν.length := by
    rw [← okc.len, eα', List.length_append, lenl]
    omega
  have freshH : ∀ a ∈ new, w.H a = none := fresh
  have subα : ∀ b, b ∈ (w.lendW is ls).α → b ∈ w.α := fun b h => by
    obtain ⟨k, _, e⟩ := fm_mem is h
    exact List.mem_of_getElem? e
  have st : Step w (w.backW c is.length) := by
    refine ⟨s.g, fun b o h => ?_, ⟨new, by show w.α ++ c.α.drop is.length = _; rw [dropα], freshH⟩, fun b o hb' h => s.fr b o (fun z => hb' (subα b z)) h, fun b h => ?_, fun b h => ?_, s.pr⟩
    · show (if c.G b = none then w.B b else c.G b) = some o
      by_cases z : c.G b = none
      · rw [if_pos z]
        exact h
      · rw [if_neg z]
        cases q : c.G b with
        | none => exact absurd q z
        | some o' =>
          have h1 := okc.gb b o' q
          have h2 := s.b b o (eB b o h)
          rw [h2] at h1
          exact h1.symm ▸ rfl
    · rcases s.gn b h with z | z | z | z
      · exact .inl z
      · exact .inr (.inl z)
      · exact .inr (.inr (.inl (subα b z)))
      · exact .inr (.inr (.inr z))
    · have h' : (if c.G b = none then w.B b else c.G b) ≠ none := h
      by_cases z : c.G b = none
      · rw [if_pos z] at h'
        exact .inl h'
      · rcases s.gn b z with y | y | y | y
        · refine .inl (fun q => y ?_)
          exact none_back ok.gb q
        · exact .inr (.inl y)
        · exact .inr (.inr (.inl (subα b y)))
        · exact .inr (.inr (.inr y))
  have bnone : ∀ a, c.B a = none → w.B a = none → (w.backW c is.length).B a = none := fun a h1 h2 => by
    show (if c.G a = none then w.B a else c.G a) = none
    rw [if_pos (none_back okc.gb h1)]
    exact h2
  refine ⟨hlen, st, ⟨fun b o h => ?_, fun b o h => ?_, ?_, ?_, fun k a o h1 h2 => ?_, fun a h => ?_⟩⟩
  · show (if c.G b = none then w.B b else c.G b) = some o
    have h' : c.G b = some o := h
    rw [if_neg (by rw [h']; simp)]
    exact h'
  · have h' : (if c.G b = none then w.B b else c.G b) = some o := h
    by_cases z : c.G b = none
    · rw [if_pos z] at h'
      exact okc.bh b o (s.b b o (eB b o h'))
    · rw [if_neg z] at h'
      exact okc.bh b o (okc.gb b o h')
  · show (w.α ++ c.α.drop is.length).Nodup
    rw [dropα, List.nodup_append]
    have nd := okc.nd
    rw [eα'] at nd
    refine ⟨ok.nd, (List.nodup_append.mp nd).2.1, fun a ha b hb' e => ?_⟩
    subst e
    exact ok.has a ha (freshH a hb')
  · show (w.α ++ c.α.drop is.length).length = _
    rw [List.length_append, dropα, merge_len hlen, ok.len, ← okc.len, eα', List.length_append, lenl]
    omega
  · have h1' : (w.α ++ c.α.drop is.length)[k]? = some a := h1
    rw [dropα] at h1'
    by_cases hk : k < w.α.length
    · rw [List.getElem?_append_left hk] at h1'
      by_cases hi : k ∈ is
      · obtain ⟨j, ej⟩ := List.mem_iff_getElem?.mp hi
        rw [merge_is hn hb hlen ej] at h2
        have hc : c.α[j]? = some a := by
          have hj : j < is.length := (List.getElem?_eq_some_iff.mp ej).1
          rw [eα', List.getElem?_append_left (by rw [lenl]; exact hj), fm_len hbα, ej]
          exact h1'
        have m := okc.mu j a o hc h2
        refine MOk.step_ne (w := c) (.refl _) (fun z => bnone a z ?_) rfl m
        have : (w.lendW is ls).B a = none := none_back s.b z
        exact none_back eB this
      · rw [merge_old hlen hi (by rw [← ok.len]; exact hk)] at h2
        have m := ok.mu k a o h1' h2
        by_cases dd : o = .dead
        · subst dd
          trivial
        have nt : ¬ IsT (w.H a) := fun ⟨xs, z⟩ => by
          cases o with
          | lst _ => obtain ⟨_, _, q, _⟩ := m; rw [z] at q; cases q
          | ins _ _ => obtain ⟨_, _, _, q, _⟩ := m; rw [z] at q; cases q
          | dT _ => obtain ⟨_, _, q, _⟩ := m; rw [z] at q; cases q
          | dK _ => obtain ⟨_, _, q, _⟩ := m; rw [z] at q; cases q
          | dead => exact dd rfl
        have ha : a ∈ w.α := List.mem_of_getElem? h1'
        have nα : a ∉ (w.lendW is ls).α := fun z => by
          obtain ⟨i, hi', ei⟩ := fm_mem is z
          exact hi (by rw [al_inj ok h1' ei]; exact hi')
        have hH : w.H a ≠ none := ok.has a ha
        have eH : c.H a = w.H a := by
          cases q : w.H a with
          | none => exact absurd q hH
          | some u => exact s.fr a u nα q
        have eG : w.G a = none → c.G a = none := fun z => by
          by_cases y : c.G a = none
          · exact y
          · rcases s.gn a y with x | x | x | x
            · exact absurd z x
            · exact absurd x hH
            · exact absurd x nα
            · exact absurd x nt
        refine MOk.step_ne (w := w) s.g (fun z => ?_) eH m
        show (if c.G a = none then w.B a else c.G a) = none
        rw [if_pos (eG (none_back ok.gb z))]
        exact z
    · rw [List.getElem?_append_right (by omega)] at h1'
      have ek : k = μ.length + (k - w.α.length) := by rw [← ok.len]; omega
      rw [ek, merge_new hlen] at h2
      have hc : c.α[is.length + (k - w.α.length)]? = some a := by
        rw [eα', List.getElem?_append_right (by rw [lenl]; omega), lenl]
        rw [show is.length + (k - w.α.length) - is.length = k - w.α.length by omega]
        exact h1'
      refine MOk.step_ne (w := c) (.refl _) (fun z => bnone a z ?_) rfl (okc.mu _ a o hc h2)
      exact none_back ok.bh (freshH a (List.mem_of_getElem? h1'))
  · show c.H a ≠ none
    rcases List.mem_append.mp (show a ∈ w.α ++ c.α.drop is.length from h) with h | h
    · exact fun z => ok.has a h (s.pr a z)
    · exact okc.has a (List.mem_of_mem_drop h)
theorem backW_at (ok : WOk K w μ) {is ls : List Nat} (hb : ∀ k ∈ is, k < μ.length) {c : Wd} (s : Step (w.lendW is ls) c) {x : W} {v : V} (hx : noB x) (h : WAt K c x v) : WAt K (w.backW c is.length) (DL.backW μ.length is x) v := by
  have hbα : ∀ k ∈ is, k < w.α.length := fun k hk => by rw [ok.len]; exact hb k hk
  obtain ⟨new, eα, fresh⟩ := s.al
  have eα' : c.α = (is.filterMap fun k => w.α[k]?) ++ new := eα
  have lenl : (is.filterMap fun k => w.α[k]?).length = is.length := fm_length hbα
  have dropα : c.α.drop is.length = new := by
    rw [eα', ← lenl]
    simp
  cases x with
  | d x => exact h
  | b x => exact hx.elim
  | m j =>
    obtain ⟨a, h1, rfl⟩ := h
    rw [eα'] at h1
    show WAt K _ (match is[j]? with | some k => .m k | none => .m (μ.length + (j - is.length))) _
    by_cases hj : j < is.length
    · have e : is[j]? = some is[j] := List.getElem?_eq_getElem hj
      rw [List.getElem?_append_left (by rw [lenl]; exact hj), fm_len hbα, e] at h1
      rw [e]
      refine ⟨a, ?_, rfl⟩
      show (w.α ++ c.α.drop is.length)[is[j]]? = some a
      rw [List.getElem?_append_left (hbα _ (by simp))]
      exact h1
    · have e : is[j]? = none := List.getElem?_eq_none (by omega)
      rw [List.getElem?_append_right (by rw [lenl]; omega), lenl] at h1
      rw [e]
      refine ⟨a, ?_, rfl⟩
      show (w.α ++ c.α.drop is.length)[μ.length + (j - is.length)]? = some a
      rw [← ok.len, List.getElem?_append_right (by omega), dropα]
      rw [show w.α.length + (j - is.length) - w.α.length = j - is.length by omega]
      exact h1
/-- what a call asks of the layer below -/
theorem call_sp {fs : FS} {xs : List W} {vs : List V} {P : PN} {R : PX} {Q : VK} (ok : WOk K w μ) (hx : WAts K w xs vs) (h : CallW fs xs μ P R) (qn : QN K w P Q) (qx : QX K Wx w σ R) : toSp K fs vs w.H Q (fun cls d H' => Wx cls d σ H') := by
  obtain ⟨is, ls, ys, P', R', hn, hb, hl, ps, h, k1, k2⟩ := h
  obtain ⟨okl, eB⟩ := lend_ok ok hn hb hl
  refine ⟨w.lendW is ls, _, ys, P', R', rfl, okl, passes_ok ok hb eB ps hx, h, fun c ν x v s okc a p => ?_, fun c ν C d gs s okc xa r => ?_⟩
  · obtain ⟨hlen, st, ok'⟩ := back_ok ok hn hb hl s okc
    obtain ⟨nb, p'⟩ := k1 x ν hlen p
    exact qn (w.backW c is.length) _ _ _ st ok' (backW_at ok hb s nb a) p'
  · obtain ⟨hlen, st, ok'⟩ := back_ok ok hn hb hl s okc
    exact qx (w.backW c is.length) _ C d gs st ok' xa (k2 C gs ν hlen r)
end
end DL

set_option Elab.async false
set_option linter.all false
set_option maxRecDepth 100000
set_option maxHeartbeats 4000000
/-! DL, part eight: defs, methods, classes, operators of a class. -/
namespace DL
open PySem L2 Evl

section
variable {X : Cx} {Wx : WX} {k : Nat} {f C : Addr} {fd : FuncData} {ps : List Str} {fs : FS} {dvs : List V} {ds : List Value}
abbrev FnD (P : Program) (w : World) (K : PySem.W.Frag) (mg : Str → Option Value) (base : Heap) (k : Nat) (f : Addr) (fd : FuncData) (ps : List Str) (fs : FS) : Prop := FnOk P w K mg base (L2.CX P w) k f fd ps (toSp K fs)
abbrev XkOf (Wx : WX) (σ : L2.St) : XK := fun cls d H' => Wx cls d σ H'
/-- the def runs, its raised things wished for at the slots σ -/
theorem run_d {pins : List (Addr × Obj)} {σ : L2.St} {H : Hp} {s : Shared} {Q : VK} {us : List Value} {vs : List V} (F : FnD X.prog X.w X.K X.mg X.base k f fd ps fs) (hr : Room k X.A) (hb : Binds X.K fd ps ds) (hd : Vals dvs ds) (tk : Takes X Wx)
    (I : Inv X pins σ H s) (r : Vals vs us) (h : toSp X.K fs (vs ++ dvs) H Q (XkOf Wx σ)) : wpAny (model X.prog X.w) X.A (call (.ref f) us) (EP X pins σ Q) X.xe s := by
  have both : Vals (vs ++ dvs) (us ++ ds) := r.append hd
  have len : (us ++ ds).length = ps.length := both.length.symm.trans (F.len _ _ _ _ h)
  have go := F.run X.A X.stack s H ⟨us, []⟩ (us ++ ds) (vs ++ dvs) Q (XkOf Wx σ) hr I.env0 (hb s us I.kIn len) both h
  refine wpAny_call (codeAny_mono go fun res s' hq => ?_)
  match res, hq with
  | .error e, hq => exact passAt tk σ pins H s e s' I hq
  | .ok (.ret u), hq => exact I.after hq
  | .ok .next, hq => exact hq.elim
  | .ok .brk, hq => exact hq.elim
  | .ok .cont, hq => exact hq.elim
def tDef (K : PySem.W.Frag) (fs : FS) (dvs : List V) (Wx : WX) (t : TA) : TE := fun σ H Q => t σ H fun vs H1 => toSp K fs (vs ++ dvs) H1 Q (XkOf Wx σ)
variable {x : Str} {p pos apos : Pos} {e o : Expr} {es : List Expr} {t : TA} {ta : TE}
/-- f(a, ..) -/
theorem pe_def (F : FnD X.prog X.w X.K X.mg X.base k f fd ps fs) (hr : Room k X.A) (hg : Gl X x) (hm : X.mg x = some (.ref f)) (hk : PySem.W.keepIn X.K (.ref f) = true) (hb : Binds X.K fd ps ds) (hd : Vals dvs ds) (tk : Takes X Wx) (ha : PA X (e :: es) t)
    (h1 : (x == ("__debug__" : Str)) = false := by decide) (h2 : starEach (e :: es) X.env = (false, eval e X.env) :: starEach es X.env := by rfl) (h3 : (backTo pos (starEach es X.env)).any (·.1) = false := by rfl) :
    PE X (.Call (.Name x p) (e :: es) [] pos) (tDef X.K fs dvs Wx t) := ⟨fun pins s σ H Q I h =>
  wpAny_Call_Name_kw (ld_glob I hg hm (PySem.W.callWith_K (h₀ := X.base) I.ok.mod.kin hk (thn (ha.run pos pins s σ H _ I h) fun us s1 hv => by
    obtain ⟨vs, H1, I1, r, q⟩ := hv
    exact ⟨I1.kIn, run_d F hr hb hd tk I1 r q⟩) h2 h3) h1)⟩
/-- o.m(a, ..) -/
def tMet (K : PySem.W.Frag) (C : Addr) (m : Str) (fs : FS) (dvs : List V) (Wx : WX) (ta : TE) (t : TA) : TE := fun σ H Q => ta σ H fun x H1 => ∃ a dx gs, x = .ref a ∧ H1 a = some (.ins C dx gs) ∧ gs.lookup m = none ∧ t σ H1 fun vs H2 => toSp K fs (x :: (vs ++ dvs)) H2 Q (XkOf Wx σ)
theorem pe_met {m : Str} {pl : Sem Bool} (he : PE X o ta) (c : Cls X.K C) (hm : Meth X.K C m f) (F : FnD X.prog X.w X.K X.mg X.base k f fd ps fs) (hr : Room k X.A) (hb : Binds X.K fd ps ds) (hd : Vals dvs ds) (tk : Takes X Wx) (ha : PA X (e :: es) t)
    (h2 : starEach (e :: es) X.env = (false, eval e X.env) :: starEach es X.env := by rfl) (h3 : (backTo pos (starEach es X.env)).any (·.1) = false := by rfl)
    (ht : eval (.Call (.Attribute o m apos) (e :: es) [] pos) X.env = (do
      let v ← eval o X.env
      standAt apos.atName
      let (g, one) ← holding [v] (getMethod v m pl)
      callWith pos g one (backTo pos (starEach (e :: es) X.env)) (backToKw pos (keywordEach [] X.env))) := by rfl) :
    PE X (.Call (.Attribute o m apos) (e :: es) [] pos) (tMet X.K C m fs dvs Wx ta t) := ⟨fun pins s σ H Q I h =>
  PySem.W.methodCall_KW (pl := pl) (thn (he.run pins s σ H _ I h) fun u s1 hv => by
    obtain ⟨x, H1, I1, rx, a, dx, gs, rfl, ea, l, q⟩ := hv
    cases rx
    refine getmeth_ok I1 ea c hm l (PySem.W.callWith_K (first := [.ref a]) (h₀ := X.base) I.ok.mod.kin hm.kp (thn (ha.run pos pins s1 σ H1 _ I1 q) fun us s2 hw => ?_) h2 h3)
    obtain ⟨vs, H2, I2, r, q2⟩ := hw
    exact ⟨I2.kIn, run_d (us := .ref a :: us) (vs := .ref a :: vs) F hr hb hd tk I2 (.cons rfl r) q2⟩) ht⟩
theorem pe_met0 {m : Str} {pl : Sem Bool} (he : PE X o ta) (c : Cls X.K C) (hm : Meth X.K C m f) (F : FnD X.prog X.w X.K X.mg X.base k f fd ps fs) (hr : Room k X.A) (hb : Binds X.K fd ps ds) (hd : Vals dvs ds) (tk : Takes X Wx)
    (ht : eval (.Call (.Attribute o m apos) [] [] pos) X.env = (do
      let v ← eval o X.env
      standAt apos.atName
      let (g, one) ← holding [v] (getMethod v m pl)
      callWith pos g one (backTo pos (starEach [] X.env)) (backToKw pos (keywordEach [] X.env))) := by rfl) :
    PE X (.Call (.Attribute o m apos) [] [] pos) (tMet X.K C m fs dvs Wx ta tNil) := ⟨fun pins s σ H Q I h =>
  PySem.W.methodCall_KW (pl := pl) (thn (he.run pins s σ H _ I h) fun u s1 hv => by
    obtain ⟨x, H1, I1, rx, a, dx, gs, rfl, ea, l, q⟩ := hv
    cases rx
    exact getmeth_ok I1 ea c hm l (PySem.W.callWith_K0 (first := [.ref a]) I1.kIn hm.kp (run_d (us := [.ref a]) (vs := [.ref a]) F hr hb hd tk I1 (.cons rfl .nil) q))) ht⟩
/-- C(a, ..) -/
def tNew (K : PySem.W.Frag) (C : Addr) (fs : FS) (dvs : List V) (Wx : WX) (t : TA) : TE := fun σ H Q => t σ H fun vs H1 => ∀ x dx, H1 x = none → H1 dx = none → dx ≠ x →
  toSp K fs (.ref x :: (vs ++ dvs)) (upd (upd H1 dx (.own x)) x (.ins C dx [])) (fun v H2 => v = .non ∧ Q (.ref x) H2) (XkOf Wx σ)
theorem run_new {pins : List (Addr × Obj)} {σ : L2.St} {H : Hp} {s : Shared} {Q : VK} {us : List Value} {vs : List V} (M : Mk X.K C f) (F : FnD X.prog X.w X.K X.mg X.base k f fd ps fs) (hr : Room (k + 1) X.A) (hb : Binds X.K fd ps ds) (hd : Vals dvs ds) (tk : Takes X Wx)
    (I : Inv X pins σ H s) (r : Vals vs us) (h : ∀ x dx, H x = none → H dx = none → dx ≠ x → toSp X.K fs (.ref x :: (vs ++ dvs)) (upd (upd H dx (.own x)) x (.ins C dx [])) (fun v H2 => v = .non ∧ Q (.ref x) H2) (XkOf Wx σ)) :
    wpAny (model X.prog X.w) X.A (call (.ref C) us) (EP X pins σ Q) X.xe s := by
  have hq := h (s.heap.objs.size + 1) s.heap.objs.size (I.hok.fresh (Nat.le_succ _)) (I.hok.fresh (Nat.le_refl _)) (Nat.ne_of_lt (Nat.lt_succ_self _))
  have J := Inv.made (C := C) I
  have both : Vals (V.ref (s.heap.objs.size + 1) :: (vs ++ dvs)) (Value.ref (s.heap.objs.size + 1) :: (us ++ ds)) := .cons rfl (r.append hd)
  have len : (Value.ref (s.heap.objs.size + 1) :: us ++ ds).length = ps.length := both.length.symm.trans (F.len _ _ _ _ hq)
  have go := F.run _ X.stack _ _ ⟨Value.ref (s.heap.objs.size + 1) :: us, []⟩ (Value.ref (s.heap.objs.size + 1) :: (us ++ ds)) _ _ (XkOf Wx σ) (hr.make C us []) (J.env0.make C us []) (hb _ (Value.ref (s.heap.objs.size + 1) :: us) J.kIn len) both hq
  refine wpAny_call (make_map (f := f) I.kIn M.makes M.init (beq_iff_eq.mp M.fn) (codeAny_mono go fun res s' hq' => ?_))
  match res, hq' with
  | .error e, hq' => exact passAt tk σ pins _ _ e s' J hq'
  | .ok (.ret u), hq' =>
    obtain ⟨v, H', I3, rv, ev, q3⟩ := J.after hq'
    subst ev
    exact ⟨rv, ⟨V.ref (s.heap.objs.size + 1), H', I3, rfl, q3⟩⟩
  | .ok .next, hq' => exact hq'.elim
  | .ok .brk, hq' => exact hq'.elim
  | .ok .cont, hq' => exact hq'.elim
theorem pe_new (M : Mk X.K C f) (F : FnD X.prog X.w X.K X.mg X.base k f fd ps fs) (hr : Room (k + 1) X.A) (hg : Gl X x) (hm : X.mg x = some (.ref C)) (hb : Binds X.K fd ps ds) (hd : Vals dvs ds) (tk : Takes X Wx) (ha : PA X (e :: es) t)
    (h1 : (x == ("__debug__" : Str)) = false := by decide) (h2 : starEach (e :: es) X.env = (false, eval e X.env) :: starEach es X.env := by rfl) (h3 : (backTo pos (starEach es X.env)).any (·.1) = false := by rfl) :
    PE X (.Call (.Name x p) (e :: es) [] pos) (tNew X.K C fs dvs Wx t) := ⟨fun pins s σ H Q I h =>
  wpAny_Call_Name_kw (ld_glob I hg hm (PySem.W.callWith_K (h₀ := X.base) I.ok.mod.kin M.kp (thn (ha.run pos pins s σ H _ I h) fun us s1 hv => by
    obtain ⟨vs, H1, I1, r, q⟩ := hv
    exact ⟨I1.kIn, run_new M F hr hb hd tk I1 r q⟩) h2 h3) h1)⟩
/-- a op b by the class's own operator; b an instance of the same class -/
def rOwn (K : PySem.W.Frag) (C : Addr) (fs : FS) (Wx : WX) (σ : L2.St) : R2 := fun x y H Q => ∃ a dx gs b dy hs, x = .ref a ∧ y = .ref b ∧ H a = some (.ins C dx gs) ∧ H b = some (.ins C dy hs) ∧ toSp K fs [x, y] H (fun v H' => (∃ c, v = .ref c) ∧ Q v H') (XkOf Wx σ)
def tOwn (K : PySem.W.Frag) (C : Addr) (fs : FS) (Wx : WX) (ta tb : TE) : TE := fun σ H Q => ta σ H fun x H1 => tb σ H1 fun y H2 => rOwn K C fs Wx σ x y H2 Q
/-- -a by the class's own -/
def tNegO (K : PySem.W.Frag) (C : Addr) (fs : FS) (Wx : WX) (ta : TE) : TE := fun σ H Q => ta σ H fun x H1 => ∃ a dx gs, x = .ref a ∧ H1 a = some (.ins C dx gs) ∧ toSp K fs [x] H1 Q (XkOf Wx σ)
/-- a * n by the class's own; n an int -/
def tOwnI (K : PySem.W.Frag) (C : Addr) (fs : FS) (Wx : WX) (ta tb : TE) : TE := fun σ H Q => ta σ H fun x H1 => tb σ H1 fun y H2 => ∃ a dx gs i, x = .ref a ∧ y = .int i ∧ H2 a = some (.ins C dx gs) ∧ toSp K fs [x, y] H2 (fun v H' => (∃ c, v = .ref c) ∧ Q v H') (XkOf Wx σ)
end
end DL

set_option Elab.async false
set_option linter.all false
set_option maxRecDepth 100000
set_option maxHeartbeats 4000000
/-! DL, part nine: the data side of calls, fields. -/
namespace DL
open PySem L2 Evl

section
variable {K : PySem.W.Frag} {Wx : WX} {w w1 w2 w' : Wd} {σ : L2.St} {ρ : Rho} {μ : Mu} {fs : FS} {dvs : List V} {C : Addr} {f m : Str}
theorem WAt.ofM {k : Nat} {a : Addr} (h : w.α[k]? = some a) : WAt K w (.m k) (.ref a) := ⟨a, h, rfl⟩
theorem WAts.append : ∀ {xs ys : List W} {vs us : List V}, WAts K w xs vs → WAts K w ys us → WAts K w (xs ++ ys) (vs ++ us)
  | _, _, _, _, .nil, s => s
  | _, _, _, _, .cons h t, s => .cons h (WAts.append t s)
theorem dflts : ∀ {dvs : List V}, WAts K w (dvs.map fun v => W.d (.v v)) dvs
  | [] => .nil
  | _ :: _ => .cons .imm dflts
abbrev dws (dvs : List V) : List W := dvs.map fun v => W.d (.v v)
/-- f(a, ..) -/
def dDef (fs : FS) (dvs : List V) (da : DAr) : DE := fun ρ μ P R => da ρ μ (fun xs μ1 => CallW fs (xs ++ dws dvs) μ1 P R) R
theorem sim_def {ta : TA} {da : DAr} (h : SimA K Wx ta da) : Sim K Wx (tDef K fs dvs Wx ta) (dDef fs dvs da) := fun {w σ ρ μ P R} ok st q {Q} qn qx =>
  h ok st q (fun w1 μ1 xs vs s1 ok1 hx p => call_sp ok1 (hx.append dflts) p (qn.step s1) (qx.step s1)) qx
/-- what an instance has; whether it is lent -/
def insOf (μ : Mu) : W → Option (Addr × List (Str × D) × Bool)
  | .d (.obj C gs) => some (C, gs, false)
  | .b (.obj C gs) => some (C, gs, true)
  | .m k => match μ[k]? with
    | some (.ins C gs) => some (C, gs, false)
    | _ => none
  | _ => none
theorem ins_ok (ok : WOk K w μ) {x : W} {v : V} {C : Addr} {gs : List (Str × D)} {l : Bool} (h : WAt K w x v) (e : insOf μ x = some (C, gs, l)) : ∃ a dx us, v = .ref a ∧ w.H a = some (.ins C dx us) ∧ AtF K (wH w l) gs us := by
  cases x with
  | d y =>
    cases h with
    | obj h1 h2 =>
      cases e
      exact ⟨_, _, _, rfl, ok.gb.trans ok.bh _ _ h1, h2⟩
    | v => cases e
    | tup _ _ => cases e
    | lst _ _ => cases e
    | scr _ _ => cases e
    | dT _ _ => cases e
    | dK _ _ => cases e
    | xc _ _ => cases e
  | b y =>
    cases h with
    | obj h1 h2 =>
      cases e
      exact ⟨_, _, _, rfl, ok.bh _ _ h1, h2⟩
    | v => cases e
    | tup _ _ => cases e
    | lst _ _ => cases e
    | scr _ _ => cases e
    | dT _ _ => cases e
    | dK _ _ => cases e
    | xc _ _ => cases e
  | m k =>
    obtain ⟨a, h1, rfl⟩ := h
    have e' : (match μ[k]? with
      | some (.ins C gs) => some (C, gs, false)
      | _ => none) = some (C, gs, l) := e
    cases q : μ[k]? with
    | none => rw [q] at e'; cases e'
    | some o =>
      rw [q] at e'
      cases o with
      | ins C2 gs2 =>
        cases e'
        obtain ⟨_, dx, us, h2, h3⟩ := ok.mu k a _ h1 q
        exact ⟨a, dx, us, rfl, h2, h3⟩
      | lst _ => cases e'
      | dT _ => cases e'
      | dK _ => cases e'
      | dead => cases e'
/-- o.m(a, ..) -/
def dMet (C : Addr) (m : Str) (fs : FS) (dvs : List V) (dx : DE) (da : DAr) : DE := fun ρ μ P R => dx ρ μ (fun x μ1 => ∃ gs l, insOf μ1 x = some (C, gs, l) ∧ gs.lookup m = none ∧ da ρ μ1 (fun xs μ2 => CallW fs (x :: (xs ++ dws dvs)) μ2 P R) R) R
/-- C(a, ..): the new instance is filled by __init__, then it stands for good -/
def dNew (C : Addr) (fs : FS) (dvs : List V) (da : DAr) : DE := fun ρ μ P R => da ρ μ (fun xs μ1 => CallW fs (.m μ1.length :: (xs ++ dws dvs)) (μ1 ++ [.ins C []]) (fun y μ2 => y = wn ∧ ∃ gs, μ2[μ1.length]? = some (.ins C gs) ∧ (P (.d (.obj C gs)) (μ2.take μ1.length) ∨ P (.m μ1.length) μ2)) (fun D gs μ2 => R D gs (μ2.take μ1.length))) R
theorem wkm_take {μ : Mu} : ∀ {n : Nat}, WkM μ (μ.take n) := fun {n} => by
  induction μ generalizing n with
  | nil => simp; exact .nil
  | cons x r ih =>
    cases n with
    | zero => exact .nil
    | succ n => exact .keep ih
theorem take_len {μ1 μ2 : Mu} (s : Step w w') (ok : WOk K w μ1) (ok2 : WOk K w' μ2) : (μ2.take μ1.length).length = μ1.length := by
  obtain ⟨l, e, _⟩ := s.al
  have := ok2.len
  rw [e, List.length_append, ok.len] at this
  simp
  omega
theorem sim_new {ta : TA} {da : DAr} (h' : SimA K Wx ta da) : Sim K Wx (tNew K C fs dvs Wx ta) (dNew C fs dvs da) := fun {w σ ρ μ P R} ok st q {Q} qn qx =>
  h' ok st q (fun w1 μ1 xs vs s1 ok1 hx p => fun x dx hx0 hd0 hne => by
    -- the instance and its own dict
    have n1 : (upd w1.H dx (.own x)) x = none := by rw [upd_ne hne.symm]; exact hx0
    have okd : WOk K ⟨w1.G, w1.B, upd w1.H dx (.own x), w1.α⟩ μ1 := ok1.poke (none_back ok1.bh hd0) (fun z => ok1.has _ z hd0)
    have sd : Step w1 ⟨w1.G, w1.B, upd w1.H dx (.own x), w1.α⟩ := (Step.refl w1).poke hd0
    let wd : Wd := ⟨w1.G, w1.B, upd w1.H dx (.own x), w1.α⟩
    have okx : WOk K (wd.newM x (.ins C dx [])) (μ1 ++ [.ins C []]) := okd.newM (u := .ins C []) n1 ⟨none_back okd.bh n1, dx, [], upd_same, .nil⟩
    have sx : Step w1 (wd.newM x (.ins C dx [])) := sd.trans (Step.newM n1)
    refine call_sp (Wx := Wx) (σ := σ) okx (.cons (WAt.last okd) ((hx.step sx).append dflts)) p (fun w2 μ2 y u s2 ok2 ay hy => ?_) (fun w2 μ2 D o gs s2 ok2 xa r => ?_)
    · obtain ⟨rfl, gs, hm, hp⟩ := hy
      cases ay
      refine ⟨rfl, ?_⟩
      have s12 := sx.trans s2
      have hα : w2.α[μ1.length]? = some x := s2.al? (by
        show (w1.α ++ [x])[μ1.length]? = some x
        rw [← ok1.len]
        simp)
      obtain ⟨hb, dx', us, e1, e2⟩ := ok2.mu _ x _ hα hm
      rcases hp with hp | hp
      · have tl := take_len s12 ok1 ok2
        have okc : WOk K (w2.cut (μ2.take μ1.length).length) (μ2.take μ1.length) := wkm_take.ok ok2
        have sc : Step w1 (w2.cut (μ2.take μ1.length).length) := s12.cut (by rw [tl, ok1.len]; exact Nat.le_refl _)
        have nα : x ∉ (w2.cut (μ2.take μ1.length).length).α := fun z => by
          have z' : x ∈ w2.α.take (μ2.take μ1.length).length := z
          rw [tl] at z'
          obtain ⟨j, hj⟩ := List.mem_iff_getElem?.mp z'
          have hlt : j < μ1.length := by
            have := (List.getElem?_eq_some_iff.mp hj).1
            simp at this
            omega
          rw [List.getElem?_take_of_lt hlt] at hj
          have := al_inj ok2 hj hα
          omega
        exact (qn.step s1) (Wd.own (w2.cut (μ2.take μ1.length).length) x (.ins C dx' us)) _ _ _ (sc.own hx0 (none_back ok2.gb hb) hb) (okc.own hb nα e1) (.dat (At.obj upd_same (by
          have e := Ex.new (o := .ins C dx' us) (none_back ok2.gb hb)
          exact e2.mono e))) hp
      · exact (qn.step s1) w2 μ2 _ _ s12 ok2 (WAt.ofM hα) hp
    · have s12 := sx.trans s2
      have tl := take_len s12 ok1 ok2
      exact (qx.step s1) (w2.cut (μ2.take μ1.length).length) _ D o gs (s12.cut (by rw [tl, ok1.len]; exact Nat.le_refl _)) (wkm_take.ok ok2) xa r) qx
/-- o.f -/
def dFld (f : Str) (dx : DE) : DE := fun ρ μ P R => dx ρ μ (fun x μ1 => ∃ C gs l d, insOf μ1 x = some (C, gs, l) ∧ gs.lookup f = some d ∧ P (item l d) μ1) R
structure FldOk (K : PySem.W.Frag) (f : Str) (C : Addr) : Prop where
  cl : Cls K C
  no : NoAttr K C f
def dFldK (K : PySem.W.Frag) (f : Str) (dx : DE) : DE := fun ρ μ P R => dx ρ μ (fun x μ1 => ∃ C gs l d, insOf μ1 x = some (C, gs, l) ∧ FldOk K f C ∧ gs.lookup f = some d ∧ P (item l d) μ1) R
/-- o.f = e, o being made -/
def dFldS (K : PySem.W.Frag) (f : Str) (dx de : DE) : DSt := fun d ρ μ => de ρ μ (fun y μ1 => dx ρ μ1 (fun x μ2 => ∃ k C gs z, y = .d z ∧ x = .m k ∧ μ2[k]? = some (.ins C gs) ∧ FldOk K f C ∧ gs.length < 1000 ∧ d.nx ρ (μ2.set k (.ins C (putD f z gs)))) (d.x ρ)) (d.x ρ)
theorem putD_at {G : Hp} {z : D} {v : V} (h : At K G z v) : ∀ {gs : List (Str × D)} {us : List (Str × V)}, AtF K G gs us → AtF K G (putD f z gs) (putF f v us)
  | _, _, .nil => .cons h .nil
  | (g, e) :: gs, (_, u) :: us, .cons a t => by
    unfold putD putF
    by_cases q : g = f
    · rw [if_pos q, if_pos q]
      exact .cons h t
    · rw [if_neg q, if_neg q]
      exact .cons a (putD_at h t)
theorem sim_fldS {to te : TE} {dx de : DE} (ho : Sim K Wx to dx) (h : Sim K Wx te de) : SimS K Wx (sFld K to te f) (dFldS K f dx de) := fun {w σ ρ μ d De} ok st q e =>
  h ok st q (fun w1 μ1 y u s1 ok1 ay q1 => ho ok1 (st.step s1) q1 (fun w2 μ2 x v s2 ok2 ax ⟨k, C, gs, z, ey, ex, hm, c, hz, p⟩ => by
    subst ey ex
    have ay2 := ay.step s2
    obtain ⟨a, ha, rfl⟩ := ax
    obtain ⟨hb, dx, us, h1, h2⟩ := ok2.mu k a _ ha hm
    have s12 := s1.trans s2
    refine ⟨a, C, dx, us, rfl, h1, c.cl, c.no, by rw [← h2.length]; exact hz, ?_⟩
    exact e.nx (s12.trans (Step.put ha)) (ok2.put (u' := .ins C (putD f z gs)) ha hm hb ⟨hb, dx, _, upd_same, putD_at ay2 h2⟩) ((st.step s12).step (Step.put ha)) p) ((e.step s1).qx (st.step s1))) (e.qx st)
/-- the operators of a class -/
def dOwn (C : Addr) (fs : FS) (da db : DE) : DE := fun ρ μ P R => da ρ μ (fun x μ1 => db ρ μ1 (fun y μ2 => (∃ gs l, insOf μ2 x = some (C, gs, l)) ∧ (∃ gs l, insOf μ2 y = some (C, gs, l)) ∧ CallW fs [x, y] μ2 (fun z μ3 => (∃ q, z = .d (.obj C q)) ∧ P z μ3) R) R) R
def dNegO (C : Addr) (fs : FS) (da : DE) : DE := fun ρ μ P R => da ρ μ (fun x μ1 => (∃ gs l, insOf μ1 x = some (C, gs, l)) ∧ CallW fs [x] μ1 P R) R
def dOwnI (C : Addr) (fs : FS) (da db : DE) : DE := fun ρ μ P R => da ρ μ (fun x μ1 => db ρ μ1 (fun y μ2 => (∃ gs l, insOf μ2 x = some (C, gs, l)) ∧ (∃ i, y = wi i) ∧ CallW fs [x, y] μ2 (fun z μ3 => (∃ q, z = .d (.obj C q)) ∧ P z μ3) R) R) R
end
end DL

set_option Elab.async false
set_option linter.all false
set_option maxRecDepth 100000
set_option maxHeartbeats 4000000
/-! DL, part ten: both sides in one rule; a def's promise by its body. -/
namespace DL
open PySem L2 Evl

structure BE (X : Cx) (Wx : WX) (e : Expr) (te : TE) (de : DE) : Prop where
  pe : PE X e te
  sim : Sim X.K Wx te de
structure BT (X : Cx) (Wx : WX) (e : Expr) (te : TT) (de : DTe) : Prop where
  pt : PT X e te
  sim : SimT X.K Wx te de
structure BW (X : Cx) (Wx : WX) (e : Expr) (te : TT) (de : DTe) : Prop where
  pw : PW X e te
  sim : SimT X.K Wx te de
structure BA (X : Cx) (Wx : WX) (es : List Expr) (ta : TA) (da : DAr) : Prop where
  pa : PA X es ta
  sim : SimA X.K Wx ta da
structure BO (X : Cx) (Wx : WX) (e : Option Expr) (to : TO) (d : DO) : Prop where
  po : PO X e to
  sim : SimO X.K Wx to d
structure BG (X : Cx) (e : Expr) (tg : TG) (dg : DG) : Prop where
  pg : PG X e tg
  sim : SimG X.K tg dg
structure BGs (X : Cx) (es : List Expr) (tg : TGs) (dg : DGs) : Prop where
  pg : PGs X es tg
  sim : SimGs X.K tg dg
structure BI (X : Cx) (Wx : WX) (tg e : Expr) (wi : TI) (di : DI) : Prop where
  pi : PI X tg e wi
  sim : SimI X.K Wx wi di
structure BS (X : Cx) (Wx : WX) (st : Stmt) (ts : TS) (ds : DSt) : Prop where
  ps : PS X st ts
  sim : SimS X.K Wx ts ds
structure BSs (X : Cx) (Wx : WX) (st : List Stmt) (ts : TS) (ds : DSt) : Prop where
  ps : PSs X st ts
  sim : SimS X.K Wx ts ds

section
variable {X : Cx} {Wx : WX} {a b c e o : Expr} {es : List Expr} {ta tb te : TE} {da db de : DE} {tt tu : TT} {dt du : DTe} {tA : TA} {dA : DAr} {pos apos p : Pos} {rest : List Expr} {x : Str}
theorem b_var (i : Nat) {pos : Pos} (hN : X.N[i]? = some x := by rfl) (hv : Vis X.env.scope x := by first | exact Or.inl rfl | exact Or.inr (Or.inl rfl) | exact Or.inr (Or.inr rfl)) (h1 : (x == ("__debug__" : Str)) = false := by decide)
    (h2 : (x == ("__classdict__" : Str)) = false := by decide) : BE X Wx (.Name x pos) (tVar i) (dVar i) := ⟨pe_var hN hv h1 h2, sim_var⟩
theorem b_int {i j pos} : BE X Wx (.Constant (.int i) j pos) (tC (.int i)) (dC (.int i)) := ⟨pe_int, sim_c⟩
theorem b_bl {i j pos} : BE X Wx (.Constant (.bool i) j pos) (tC (.bl i)) (dC (.bl i)) := ⟨pe_bl, sim_c⟩
theorem b_non {j pos} : BE X Wx (.Constant .none j pos) (tC .non) (dC .non) := ⟨pe_non, sim_c⟩
theorem b_str {i j pos} : BE X Wx (.Constant (.str i) j pos) (tC (.str i)) (dC (.str i)) := ⟨pe_str, sim_c⟩
theorem b_bltn {v : V} {u : Value} (hg : Gl X x) (hm : X.mg x = none) (hv : bootBuiltins x = some u) (r : RelV v u) (hn : x ≠ "__name__" := by decide) (h1 : (x == ("__debug__" : Str)) = false := by decide) : BE X Wx (.Name x pos) (tC v) (dC v) := ⟨pe_bltn hg hm hv r hn h1, sim_c⟩
theorem b_op {op : Operator} {r : R2} {dr : D2} (ho : OpR X (binaryOp op) r) (hs : Op2 X.K Wx r dr) (ha : BE X Wx a ta da) (hb : BE X Wx b tb db) : BE X Wx (.BinOp a op b pos) (tOp r ta tb) (dOp dr da db) := ⟨pe_op ho ha.pe hb.pe, sim_op hs ha.sim hb.sim⟩
theorem b_add (ha : BE X Wx a ta da) (hb : BE X Wx b tb db) : BE X Wx (.BinOp a .Add b pos) (tOp (rAddA X.K) ta tb) (dOp dAdd da db) := b_op (OpR.or op_add (OpR.or op_cat (OpR.or op_catA op_add_str))) op2_add ha hb
theorem b_mul (ha : BE X Wx a ta da) (hb : BE X Wx b tb db) : BE X Wx (.BinOp a .Mult b pos) (tOp rMulA ta tb) (dOp dMul da db) := b_op (OpR.or op_mul op_rep) op2_mul ha hb
theorem b_sub (ha : BE X Wx a ta da) (hb : BE X Wx b tb db) : BE X Wx (.BinOp a .Sub b pos) (tOp (rI0 fun i j => .int (i - j)) ta tb) (dOp (dI0 fun i j => .int (i - j)) da db) := b_op op_sub op2_I0 ha hb
theorem b_mod (ha : BE X Wx a ta da) (hb : BE X Wx b tb db) : BE X Wx (.BinOp a .Mod b pos) (tOp (rI (fun _ j => 0 < j) fun i j => .int (i % j)) ta tb) (dOp (dI (fun _ j => 0 < j) fun i j => .int (i % j)) da db) := b_op op_mod op2_I ha hb
theorem b_pow (ha : BE X Wx a ta da) (hb : BE X Wx b tb db) : BE X Wx (.BinOp a .Pow b pos) (tOp (rI CPow fun i j => .int (i ^ j.toNat)) ta tb) (dOp (dI CPow fun i j => .int (i ^ j.toNat)) da db) := b_op op_pow op2_I ha hb
theorem b_un {op : UnaryOp} {r : V → Hp → VK → Prop} {dr : D1} (ho : UnR X (unaryOp op) r) (hs : Op1 X.K Wx r dr) (ha : BE X Wx a ta da) : BE X Wx (.UnaryOp op a pos) (tUn r ta) (dUn dr da) := ⟨pe_un ho ha.pe, sim_un hs ha.sim⟩
theorem b_neg (ha : BE X Wx a ta da) : BE X Wx (.UnaryOp .USub a pos) (tUn (rU fun i => .int (-i)) ta) (dUn (dU fun i => .int (-i)) da) := b_un un_neg op1_U ha
theorem b_cmp {op : CmpOp} {r : R2} {dr : D2} (ho : OpR X (compareOp op) r) (hs : Op2 X.K Wx r dr) (ha : BE X Wx a ta da) (hb : BE X Wx b tb db) (hm : behindInMarks op b = false) : BE X Wx (.Compare a [op] [b] pos) (tOp r ta tb) (dOp dr da db) := ⟨pe_cmpR ho ha.pe hb.pe hm, sim_op hs ha.sim hb.sim⟩
theorem b_cmpT {op : CmpOp} {r : R2} {dr : D2} (ho : OpR X (compareOp op) r) (hs : Op2 X.K Wx r dr) (ha : BE X Wx a ta da) (hb : BE X Wx b tb db) (hm : behindInMarks op b = false) : BT X Wx (.Compare a [op] [b] pos) (tTest (tOp r ta tb)) (dTest (dOp dr da db)) := ⟨pt_cmpR ho ha.pe hb.pe hm, sim_test (sim_op hs ha.sim hb.sim)⟩
theorem b_val (h : BE X Wx e te de) (he : ∀ whole, isTrue e X.env whole = (do let v ← whole; standAt e.pos; holding [v] (truthy v)) := by intro _; rfl) : BT X Wx e (tB te) (dTest de) := ⟨pt_val h.pe he, sim_B h.sim⟩
theorem b_not (h : BT X Wx a tt dt) : BT X Wx (.UnaryOp .Not a pos) (tNot tt) (dNot dt) := ⟨pt_not h.pt, sim_not h.sim⟩
theorem b_and1 (h : BT X Wx a tt dt) : BW X Wx (.BoolOp .And [a] pos) tt dt := ⟨pw_and1 h.pt, h.sim⟩
theorem b_or1 (h : BT X Wx a tt dt) : BW X Wx (.BoolOp .Or [a] pos) tt dt := ⟨pw_or1 h.pt, h.sim⟩
theorem b_and (h : BT X Wx a tt dt) (h' : BW X Wx (.BoolOp .And (b :: rest) pos) tu du) : BW X Wx (.BoolOp .And (a :: b :: rest) pos) (tAnd tt tu) (dAnd dt du) := ⟨pw_and h.pt h'.pw, sim_and h.sim h'.sim⟩
theorem b_or (h : BT X Wx a tt dt) (h' : BW X Wx (.BoolOp .Or (b :: rest) pos) tu du) : BW X Wx (.BoolOp .Or (a :: b :: rest) pos) (tOr tt tu) (dOrT dt du) := ⟨pw_or h.pt h'.pw, sim_or h.sim h'.sim⟩
theorem BW.t (h : BW X Wx a tt dt) : BT X Wx a tt dt := ⟨h.pw.pt, h.sim⟩
theorem b_oneV {op} (h : BE X Wx a ta da) : BE X Wx (.BoolOp op [a] pos) ta da := ⟨pe_one h.pe, h.sim⟩
theorem b_andV (h : BE X Wx a ta da) (h' : BE X Wx (.BoolOp .And (b :: rest) pos) tb db) : BE X Wx (.BoolOp .And (a :: b :: rest) pos) (tAndV ta tb) (dAndV da db) := ⟨pe_and h.pe h'.pe, sim_andV h.sim h'.sim⟩
theorem b_orV (h : BE X Wx a ta da) (h' : BE X Wx (.BoolOp .Or (b :: rest) pos) tb db) : BE X Wx (.BoolOp .Or (a :: b :: rest) pos) (tOrV ta tb) (dOrV da db) := ⟨pe_or h.pe h'.pe, sim_orV h.sim h'.sim⟩
theorem b_notV (h : BE X Wx a ta da) : BE X Wx (.UnaryOp .Not a pos) (tNotV ta) (dNotV da) := ⟨pe_not h.pe, sim_notV h.sim⟩
theorem b_ifE (hc : BT X Wx c tt dt) (ha : BE X Wx a ta da) (hb : BE X Wx b tb db) : BE X Wx (.IfExp c a b pos) (tIf tt ta tb) (dIf dt da db) := ⟨pe_ifExp hc.pt ha.pe hb.pe, sim_if hc.sim ha.sim hb.sim⟩
theorem b_nil : BA X Wx [] tNil dNil := ⟨pa_nil, sim_nil⟩
theorem b_cons (ha : BE X Wx e te de) (hr : BA X Wx es tA dA) (hs : starEach (e :: es) X.env = (false, eval e X.env) :: starEach es X.env := by rfl) : BA X Wx (e :: es) (tCons te tA) (dCons de dA) := ⟨pa_cons ha.pe hr.pa hs, sim_cons ha.sim hr.sim⟩
theorem b_tup {x1} (h : BA X Wx es tA dA) : BE X Wx (.Tuple es x1 pos) (tTup tA) (dTup dA) := ⟨pe_tup h.pa, sim_tup h.sim⟩
theorem b_lst (h : BA X Wx es tA dA) : BE X Wx (.List es pos) (tLst tA) (dLst dA) := ⟨pe_lst h.pa, sim_lst h.sim⟩
theorem b_ix (ha : BE X Wx a ta da) (hb : BE X Wx b tb db) (hs : PlainIx b := by intro _ _; rfl) : BE X Wx (.Subscript a b pos) (tOp (rIx X.K) ta tb) (dOp dIx da db) := ⟨pe_ix ix_seq ha.pe hb.pe hs, sim_op op2_ix ha.sim hb.sim⟩
theorem b_po_none : BO X Wx none tNoPart dNoPart := ⟨po_none, sim_noPart⟩
theorem b_po (h : BE X Wx e te de) : BO X Wx (some e) (tPart te) (dPart de) := ⟨po_some h.pe, sim_part h.sim⟩
theorem b_sl {lo hi : Option Expr} {tl th : TO} {dl dh : DO} {p2 : Pos} (he : BE X Wx e te de) (hl : BO X Wx lo tl dl) (hh : BO X Wx hi th dh) :
    BE X Wx (.Subscript e (.Slice lo hi none p2) pos) (tSl (fun x lo hi H Q => rSlL X.K x lo hi H Q ∨ (rSlA X.K x lo hi H Q ∨ rSlS x lo hi H Q)) te tl th) (dSl de dl dh) := ⟨pe_slice (SlR.or sl_list (SlR.or sl_tupA sl_str)) he.pe hl.po hh.po, sim_sl he.sim hl.sim hh.sim⟩
theorem b_cb {id : String} {r : List V → Hp → VK → Prop} {dr : DC} (hc : CallR X (.builtin id) r) (hs : OpC X.K Wx r dr) (hg : Gl X x) (hm : X.mg x = none) (hv : bootBuiltins x = some (.builtin id)) (ha : BA X Wx (e :: es) tA dA) (hn : x ≠ "__name__" := by decide) (h1 : (x == ("__debug__" : Str)) = false := by decide)
    (h2 : starEach (e :: es) X.env = (false, eval e X.env) :: starEach es X.env := by rfl) (h3 : (backTo pos (starEach es X.env)).any (·.1) = false := by rfl) : BE X Wx (.Call (.Name x p) (e :: es) [] pos) (tCB r tA) (dCB dr dA) := ⟨pe_callB hc hg hm hv ha.pa hn h1 h2 h3, sim_cb hs ha.sim⟩
theorem b_cty {T : String} {r : List V → Hp → VK → Prop} {dr : DC} (hc : CallR X (.type T) r) (hs : OpC X.K Wx r dr) (hg : Gl X x) (hm : X.mg x = none) (hv : bootBuiltins x = some (.type T)) (ha : BA X Wx (e :: es) tA dA) (hn : x ≠ "__name__" := by decide) (h1 : (x == ("__debug__" : Str)) = false := by decide)
    (h2 : starEach (e :: es) X.env = (false, eval e X.env) :: starEach es X.env := by rfl) (h3 : (backTo pos (starEach es X.env)).any (·.1) = false := by rfl) : BE X Wx (.Call (.Name x p) (e :: es) [] pos) (tCB r tA) (dCB dr dA) := ⟨pe_callTy hc hg hm hv ha.pa hn h1 h2 h3, sim_cb hs ha.sim⟩
variable {k : Nat} {f C : Addr} {fd : FuncData} {ps : List Str} {fs : FS} {dvs : List V} {ds : List Value}
theorem b_def (F : FnD X.prog X.w X.K X.mg X.base k f fd ps fs) (hr : Room k X.A) (hg : Gl X x) (hm : X.mg x = some (.ref f)) (hk : PySem.W.keepIn X.K (.ref f) = true) (hb : Binds X.K fd ps ds) (hd : Vals dvs ds) (tk : Takes X Wx) (ha : BA X Wx (e :: es) tA dA)
    (h1 : (x == ("__debug__" : Str)) = false := by decide) (h2 : starEach (e :: es) X.env = (false, eval e X.env) :: starEach es X.env := by rfl) (h3 : (backTo pos (starEach es X.env)).any (·.1) = false := by rfl) :
    BE X Wx (.Call (.Name x p) (e :: es) [] pos) (tDef X.K fs dvs Wx tA) (dDef fs dvs dA) := ⟨pe_def F hr hg hm hk hb hd tk ha.pa h1 h2 h3, sim_def ha.sim⟩
theorem b_new (M : Mk X.K C f) (F : FnD X.prog X.w X.K X.mg X.base k f fd ps fs) (hr : Room (k + 1) X.A) (hg : Gl X x) (hm : X.mg x = some (.ref C)) (hb : Binds X.K fd ps ds) (hd : Vals dvs ds) (tk : Takes X Wx) (ha : BA X Wx (e :: es) tA dA)
    (h1 : (x == ("__debug__" : Str)) = false := by decide) (h2 : starEach (e :: es) X.env = (false, eval e X.env) :: starEach es X.env := by rfl) (h3 : (backTo pos (starEach es X.env)).any (·.1) = false := by rfl) :
    BE X Wx (.Call (.Name x p) (e :: es) [] pos) (tNew X.K C fs dvs Wx tA) (dNew C fs dvs dA) := ⟨pe_new M F hr hg hm hb hd tk ha.pa h1 h2 h3, sim_new ha.sim⟩
/-! ### targets, walks, comprehensions -/
theorem b_name (i : Nat) {pos : Pos} (hN : X.N.Nodup) (hi : X.N[i]? = some x) (hx : Loc X.env.scope x) (hf : X.fn x = true ∨ X.env.scope.names.lookup x = some .local := by first | exact .inl rfl | exact .inr rfl | assumption) : BG X (.Name x pos) (gName i) (dName i) := ⟨pg_name hN hi hx hf, sim_name⟩
theorem b_gnil : BGs X [] gNil dGNil := ⟨pgs_nil, sim_gnil⟩
theorem b_gcons {tg : TG} {tr : TGs} {dg : DG} {dr : DGs} (h : BG X e tg dg) (h' : BGs X es tr dr) (hs : (assignEach (e :: es) X.env).map (·.2) = assign e X.env :: (assignEach es X.env).map (·.2) := by rfl) : BGs X (e :: es) (gCons tg tr) (dGCons dg dr) := ⟨pgs_cons h.pg h'.pg hs, sim_gcons h.sim h'.sim⟩
end
end DL

set_option Elab.async false
set_option linter.all false
set_option maxRecDepth 100000
set_option maxHeartbeats 4000000
/-! DL, part eleven: loops, comprehensions, statements, a def's promise by its body. -/
namespace DL
open PySem L2 Evl

section
variable {X : Cx} {Wx : WX} {a b c e o : Expr} {es : List Expr} {ta tb te : TE} {da db de : DE} {tt tu : TT} {dt du : DTe} {tA : TA} {dA : DAr} {pos apos p : Pos} {rest : List Expr} {x : Str} {st : Stmt} {sts body orelse : List Stmt} {ts ts' : TS} {s s' : DSt}
theorem b_gtup {tg : TGs} {dg : DGs} {k n : Nat} (hc : X.calm = true) (h : BGs X es tg dg) (hn : (assignEach es X.env).length = n := by rfl) (hst : (assignEach es X.env).findIdx? (·.1) = none := by rfl) : BG X (.Tuple es k pos) (gTup X.K n tg) (dGTup n dg) := ⟨pg_tup hc h.pg hn hst, sim_gtup h.sim⟩
theorem b_iR1 {tg : Expr} (hg : Gl X "range") (hm : X.mg "range" = none) (ha : BA X Wx [a] tA dA) (hs : starEach [a] X.env = [(false, eval a X.env)] := by rfl) : BI X Wx tg (.Call (.Name "range" p) [a] [] pos) (iRng1 tA) (dIR1 dA) := ⟨pi_range1 hg hm ha.pa hs, sim_iR1 ha.sim⟩
theorem b_iE {elts : List Expr} {kk : Nat} {tpos : Pos} (hg : Gl X "enumerate") (hm : X.mg "enumerate" = none) (ha : BA X Wx [a] tA dA) (hs : starEach [a] X.env = [(false, eval a X.env)] := by rfl) :
    BI X Wx (.Tuple elts kk tpos) (.Call (.Name "enumerate" p) [a] [] pos) (iEnum X.K tA) (dIE dA) := ⟨pi_enum hg hm ha.pa hs, sim_iE ha.sim⟩
/-- names of a comprehension's target -/
theorem gname_mono {i : Nat} : ∀ (v : V) (σ : L2.St) (H : Hp) (Q Q' : L2.St → Hp → Prop), (∀ a b, Q a b → Q' a b) → gName i v σ H Q → gName i v σ H Q' := fun v σ H Q Q' h q => h _ _ q
theorem gnil_mono : ∀ (v : List V) (σ : L2.St) (H : Hp) (Q Q' : L2.St → Hp → Prop), (∀ a b, Q a b → Q' a b) → gNil v σ H Q → gNil v σ H Q' := fun v σ H Q Q' h q => ⟨q.1, h _ _ q.2⟩
theorem gcons_mono {tg : TG} {tr : TGs} (h1 : ∀ v σ H (Q Q' : L2.St → Hp → Prop), (∀ a b, Q a b → Q' a b) → tg v σ H Q → tg v σ H Q') (h2 : ∀ v σ H (Q Q' : L2.St → Hp → Prop), (∀ a b, Q a b → Q' a b) → tr v σ H Q → tr v σ H Q') :
    ∀ (v : List V) (σ : L2.St) (H : Hp) (Q Q' : L2.St → Hp → Prop), (∀ a b, Q a b → Q' a b) → gCons tg tr v σ H Q → gCons tg tr v σ H Q' := fun v σ H Q Q' h q => by
  obtain ⟨x, r, e, q⟩ := q
  exact ⟨x, r, e, h1 _ _ _ _ _ (fun a b z => h2 _ _ _ _ _ h z) q⟩
theorem wipes_names2 {i j : Nat} {n : Nat} {K : PySem.W.Frag} {vs : List Nat} (h1 : i ∈ vs) (h2 : j ∈ vs) : Wipes (gTup K n (gCons (gName i) (gCons (gName j) gNil))) vs :=
  wipes_tup (wipes_cons gname_mono (gcons_mono gname_mono gnil_mono) (wipes_name h1) (wipes_cons gname_mono gnil_mono (wipes_name h2) wipes_nil))
structure BTs (X : Cx) (ifs : List Expr) (te : TT) (de : DTe) : Prop where
  pt : PTs X ifs te
  sim : SimT X.K WF te de
theorem b_noif : BTs X [] tYes dYes := ⟨pts_nil, sim_yes⟩
theorem b_lc {elt tg iter : Expr} {ifs : List Expr} {scope : Scope} {own : List (Str × Nat)} {wi : TI} {g : TG} {di : DI} {dg : DG} (hc : X.calm = true) (hN : X.N.Nodup) (hi : BI X Wx tg iter wi di) (ok : BlkOk X.N X.env.scope scope own) (hw : Wipes g (own.map (·.2)))
    (hg : ∀ (s : Shared) (H : Hp) (C : Addr) (cl : List (Str × Addr)) (fp : List Addr), BG (X.blk s H scope (compEnvC scope cl C X.env) fp) tg g dg)
    (ht : ∀ (s : Shared) (H : Hp) (C : Addr) (cl : List (Str × Addr)) (fp : List Addr), BTs (X.blk s H scope (compEnvC scope cl C X.env) fp) ifs tt dt)
    (he : ∀ (s : Shared) (H : Hp) (C : Addr) (cl : List (Str × Addr)) (fp : List Addr), BE (X.blk s H scope (compEnvC scope cl C X.env) fp) WF elt te de) (hs : ∀ x, foldedSetIterable iter X.env x = pure x := by intro _; rfl) :
    BE X Wx (.ListComp elt [⟨tg, iter, ifs, 0⟩] scope pos) (tLc wi g tt te (own.map (·.2))) (dLc di dg dt de (own.map (·.2))) :=
  ⟨pe_lc hc hN hi.pi ok (fun s H C cl fp => (hg s H C cl fp).pg) (fun s H C cl fp => (ht s H C cl fp).pt) (fun s H C cl fp => (he s H C cl fp).pe) hs,
    sim_lc hi.sim (hg ({} : Shared) (fun _ => none) 0 [] []).sim hw (ht ({} : Shared) (fun _ => none) 0 [] []).sim (he ({} : Shared) (fun _ => none) 0 [] []).sim⟩
/-! ### statements -/
theorem bs_nil : BSs X Wx [] tNext dNext := ⟨pss_nil, sim_next⟩
theorem bs_cons (h : BS X Wx st ts s) (h' : BSs X Wx sts ts' s') : BSs X Wx (st :: sts) (tSeq ts ts') (dSeq s s') := ⟨pss_cons h.ps h'.ps, sim_seq h.sim h'.sim⟩
theorem bs_one (h : BS X Wx st ts s) : BSs X Wx [st] ts s := ⟨pss_one h.ps, h.sim⟩
theorem b_ret (h : BE X Wx e te de) : BS X Wx (.Return (some e) pos) (tRet te) (dRet de) := ⟨ps_ret h.pe, sim_ret h.sim⟩
theorem b_if (hc : BT X Wx c tt dt) (h : BSs X Wx body ts s) (h' : BSs X Wx orelse ts' s') : BS X Wx (.If c body orelse pos) (tIfS tt ts ts') (dIfS dt s s') := ⟨ps_if hc.pt h.ps h'.ps, sim_ifS hc.sim h.sim h'.sim⟩
theorem b_set (i : Nat) {pos' : Pos} (hN : X.N.Nodup) (hi : X.N[i]? = some x) (hx : Loc X.env.scope x) (he : BE X Wx e te de) (hs : swapsWith e (some (.Name x pos')) pos.line X.env = pure false := by rfl)
    (hf : X.fn x = true ∨ X.env.scope.names.lookup x = some .local := by first | exact .inl rfl | exact .inr rfl | assumption) : BS X Wx (.Assign [.Name x pos'] e pos) (tAsg te (gName i)) (dAsg de (dName i)) := ⟨ps_set hN hi hx he.pe hs hf, sim_asg he.sim sim_name⟩
theorem b_asg {tg : Expr} {g : TG} {dg : DG} (he : BE X Wx e te de) (hg : BG X tg g dg) (hs : swapsWithSole [tg] e pos.line X.env = pure false := by rfl) (hw : swappedStores [tg] e X.env = pure none := by rfl) (h1 : (assignEach [tg] X.env).map (·.2) = [assign tg X.env] := by rfl) :
    BS X Wx (.Assign [tg] e pos) (tAsg te g) (dAsg de dg) := ⟨ps_asg he.pe hg.pg hs hw h1, sim_asg he.sim hg.sim⟩
/-- x = [..] on one line -/
theorem b_setLc (i : Nat) {y : Str} {py spos : Pos} {elt tg iter : Expr} {ifs : List Expr} {scope : Scope} {own : List (Str × Nat)} {wi : TI} {g : TG} {di : DI} {dg : DG} (hc : X.calm = true) (hN : X.N.Nodup) (hy : X.N[i]? = some y) (hyl : X.env.scope.names.lookup y = some .local)
    (hsw : swapsWith (.ListComp elt [⟨tg, iter, ifs, 0⟩] scope pos) (some (.Name y py)) spos.line X.env = pure true) (hi : BI X Wx tg iter wi di) (ok : BlkOk X.N X.env.scope scope own) (hw : Wipes g (own.map (·.2)))
    (hg : ∀ (s : Shared) (H : Hp) (C : Addr) (cl : List (Str × Addr)) (fp : List Addr), BG (X.blk s H scope (compEnvC scope cl C X.env) fp) tg g dg)
    (ht : ∀ (s : Shared) (H : Hp) (C : Addr) (cl : List (Str × Addr)) (fp : List Addr), BTs (X.blk s H scope (compEnvC scope cl C X.env) fp) ifs tt dt)
    (he : ∀ (s : Shared) (H : Hp) (C : Addr) (cl : List (Str × Addr)) (fp : List Addr), BE (X.blk s H scope (compEnvC scope cl C X.env) fp) WF elt te de) (hs : ∀ x, foldedSetIterable iter X.env x = pure x := by intro _; rfl) :
    BS X Wx (.Assign [.Name y py] (.ListComp elt [⟨tg, iter, ifs, 0⟩] scope pos) spos) (tAsg (tLc wi g tt te (own.map (·.2))) (gName i)) (dAsg (dLc di dg dt de (own.map (·.2))) (dName i)) :=
  ⟨ps_setLc hc hN hy hyl hsw hi.pi ok (fun s H C cl fp => (hg s H C cl fp).pg) (fun s H C cl fp => (ht s H C cl fp).pt) (fun s H C cl fp => (he s H C cl fp).pe) hs,
    sim_asg (sim_lc hi.sim (hg ({} : Shared) (fun _ => none) 0 [] []).sim hw (ht ({} : Shared) (fun _ => none) 0 [] []).sim (he ({} : Shared) (fun _ => none) 0 [] []).sim) sim_name⟩
theorem b_for {iter tg : Expr} {wi : TI} {g : TG} {di : DI} {dg : DG} (hp : PassesOwn (model X.prog X.w) X.A X.env X.xe) (hc : X.calm = true) (hi : BI X Wx tg iter wi di) (hg : BG X tg g dg) (hb : BSs X Wx body ts s)
    (hs : ∀ x, foldedSetIterable iter X.env x = pure x := by intro _; rfl) : BS X Wx (.For tg iter body [] pos) (tFor wi g ts) (dFor di dg s) := ⟨ps_for hp hc hi.pi hg.pg hb.ps hs, sim_for hi.sim hg.sim hb.sim⟩
theorem b_app {tl : TE} {dl : DE} {cpos : Pos} (hl : BE X Wx o tl dl) (h : BE X Wx e te de) (hbase : attributeBase o "append" X.env (eval o X.env) = eval o X.env := by rfl)
    (hfew : ((backTo cpos (starEach [e] X.env)).all (fun x => !x.1) && (backToKw cpos (keywordEach [] X.env)).all (fun x => x.1.isSome)
      && decide ([e].length + ([] : List Keyword).length + (if ([] : List Keyword).isEmpty then 0 else 1) < 30)) = true := by rfl)
    (hline : (apos.endLine == cpos.line) = true := by rfl) (hs : starEach [e] X.env = (false, eval e X.env) :: starEach [] X.env := by rfl) (hplain : (backTo cpos (starEach [] X.env)).any (·.1) = false := by rfl) (hsw : swapsWith (.Call (.Attribute o "append" apos) [e] [] cpos) none pos.line X.env = pure false := by rfl) :
    BS X Wx (.Expr (.Call (.Attribute o "append" apos) [e] [] cpos) pos) (tDrop (tBM X.K "list" rAppend tl (tCons te tNil))) (dApp dl de) :=
  ⟨ps_expr (pe_bm PySem.F.plainAttrs_list PySem.F.slot_list_append PySem.F.type_list_append mt_append hl.pe (pa_cons h.pe pa_nil hs) hbase hfew hline hs hplain) hsw, sim_app hl.sim h.sim⟩
end

/-! ### a def by its body -/
section
variable {K : PySem.W.Frag} {Wx : WX} {w w1 w2 w' : Wd} {σ : L2.St} {ρ : Rho} {μ : Mu}
/-- what stands at the end of a body: local things are dropped, a list that is handed back is frozen -/
def inCutW (n : Nat) : W → Prop
  | .m k => k < n
  | _ => True
def RtW (n : Nat) (P : PN) (x : W) (μ : Mu) : Prop := (∃ μ', WkM μ μ' ∧ n ≤ μ'.length ∧ inCutW μ'.length x ∧ P x μ') ∨ ∃ k ds, x = .m k ∧ μ[k]? = some (.lst ds) ∧ ∃ μ', WkM (μ.set k .dead) μ' ∧ n ≤ μ'.length ∧ P (.d (.lst ds)) μ'
theorem WAt.cut {n : Nat} {x : W} {v : V} (h : WAt K w x v) (c : inCutW n x) : WAt K (w.cut n) x v := by
  cases x with
  | d y => exact h
  | b y => exact h
  | m k =>
    obtain ⟨a, h1, e⟩ := h
    refine ⟨a, ?_, e⟩
    show (w.α.take n)[k]? = some a
    rw [List.getElem?_take_of_lt c]
    exact h1
theorem WOk.freeze {k : Nat} {a : Addr} {ds : List D} {xs : List V} (ok : WOk K w μ) (ha : w.α[k]? = some a) (hm : μ[k]? = some (.lst ds)) (h1 : w.H a = some (.lst xs)) (hb : w.B a = none) : WOk K (w.own a (.lst xs)) (μ.set k .dead) := by
  refine ⟨upd_ex ok.gb, fun b q h => ?_, ok.nd, by simp [Wd.own, ok.len], fun j c z h2 h3 => ?_, ok.has⟩
  · by_cases e : b = a
    · have h' : upd w.B a (.lst xs) b = some q := h
      rw [e, upd_same] at h'
      cases h'
      rw [e]
      exact h1
    · have h' : upd w.B a (.lst xs) b = some q := h
      rw [upd_ne e] at h'
      exact ok.bh b q h'
  · by_cases hj : k = j
    · subst hj
      rw [List.getElem?_set_self (by rw [← ok.len]; exact (List.getElem?_eq_some_iff.mp ha).1)] at h3
      cases h3
      trivial
    · rw [List.getElem?_set_ne hj] at h3
      have na : c ≠ a := fun e => hj (al_inj ok (e ▸ ha) h2)
      exact MOk.step_ne (w := w) (Ex.new (none_back ok.gb hb)) (fun z => by show upd w.B a (.lst xs) c = none; rw [upd_ne na]; exact z) rfl (ok.mu j c z h2 h3)
theorem Step.freeze {k : Nat} {a : Addr} {xs : List V} (ok : WOk K w μ) (ha : w.α[k]? = some a) (hb : w.B a = none) : Step w (w.own a (.lst xs)) := by
  have hα : a ∈ w.α := List.mem_of_getElem? ha
  refine ⟨Ex.new (none_back ok.gb hb), Ex.new hb, ⟨[], by simp [Wd.own], by simp⟩, fun b o _ h => h, fun b h => ?_, fun b h => ?_, fun b h => h⟩
  · by_cases e : b = a
    · exact .inr (.inr (.inl (by rw [e]; exact hα)))
    · refine .inl (fun z => h ?_)
      show upd w.G a (.lst xs) b = none
      rw [upd_ne e]
      exact z
  · by_cases e : b = a
    · exact .inr (.inr (.inl (by rw [e]; exact hα)))
    · refine .inl (fun z => h ?_)
      show upd w.B a (.lst xs) b = none
      rw [upd_ne e]
      exact z
theorem rt_ok {n : Nat} {P : PN} {Q : VK} {x : W} {v : V} (hn : n = w.α.length) (s : Step w w') (ok : WOk K w' μ) (a : WAt K w' x v) (h : RtW n P x μ) (qn : QN K w P Q) : Q v w'.H := by
  rcases h with ⟨μ', h1, h2, h3, p⟩ | ⟨k, ds, rfl, hm, μ', h1, h2, p⟩
  · exact qn (w'.cut μ'.length) μ' x v (s.cut (by omega)) (h1.ok ok) (a.cut h3) p
  · obtain ⟨b, hα, rfl⟩ := a
    obtain ⟨hb, xs, e1, e2⟩ := ok.mu k b _ hα hm
    have ok2 := ok.freeze hα hm e1 hb
    have s2 := s.trans (Step.freeze (xs := xs) ok hα hb)
    exact qn ((w'.own b (.lst xs)).cut μ'.length) μ' _ _ (s2.cut (by omega)) (h1.ok ok2) (.dat (At.lst upd_same (e2.mono (Ex.new (none_back ok.gb hb))))) p
def startW (n : Nat) (xs : List W) : Rho := xs.map some ++ List.replicate (n - xs.length) none
theorem start_sto {N : List Str} {xs : List W} {vs : List V} (h : WAts K w xs vs) : Sto K w (L2.start N vs) (startW N.length xs) := by
  have one : ∀ {xs : List W} {vs : List V} {n : Nat}, WAts K w xs vs → Sto K w (vs.map some ++ List.replicate n none) (xs.map some ++ List.replicate n none) := fun {xs vs n} h => by
    refine ⟨by simp [h.length], ?_⟩
    induction h with
    | nil =>
      intro i x e
      simp [List.getElem?_replicate] at e
    | cons a t ih =>
      intro i x e
      cases i with
      | zero =>
        simp at e
        subst e
        exact ⟨_, rfl, a⟩
      | succ i => simpa using ih i x (by simpa using e)
  unfold L2.start startW
  rw [← h.length]
  exact one h
/-- the wishes of a body for a promise's wishes -/
def dnOf (n : Nat) (P : PN) (R : PX) : Dn := { nx := fun _ μ => RtW n P wn μ, rt := RtW n P, xc := fun C gs _ μ => ∃ μ', WkM μ μ' ∧ n ≤ μ'.length ∧ R C gs μ' }
abbrev WxOf (E : XK) : WX := fun cls d _ H => E cls d H
end
end DL

set_option Elab.async false
set_option linter.all false
set_option maxRecDepth 100000
set_option maxHeartbeats 4000000
/-! DL, part twelve: promises packed; calls by them. -/
namespace DL
open PySem L2 Evl

section
variable {P : Program} {w : World} {K : PySem.W.Frag} {mg : Str → Option Value} {base : Heap} {k : Nat} {f C : Addr} {ps N : List Str} {dvs : List V} {fs : FS}
/-- a def keeps a promise by data; its last arguments may be left out (dvs) -/
structure Ok (P : Program) (w : World) (K : PySem.W.Frag) (mg : Str → Option Value) (base : Heap) (k : Nat) (f : Addr) (ps : List Str) (dvs : List V) (fs : FS) : Prop where
  ex : ∃ fd ds, FnD P w K mg base k f fd ps fs ∧ Binds K fd ps ds ∧ Vals dvs ds ∧ PySem.W.keepIn K (.ref f) = true
theorem Ok.mono {j : Nat} (h : Ok P w K mg base j f ps dvs fs) (l : j ≤ k) : Ok P w K mg base k f ps dvs fs := by
  obtain ⟨fd, ds, a, b, c, d⟩ := h.ex
  exact ⟨fd, ds, a.mono l, b, c, d⟩
theorem fn_dd {x qual : Str} {params : Arguments} {body : List Stmt} {scope : Scope} {dv : List V} {kws : List (Str × V)} {fd : FuncData} (F : FunD K x qual params body scope dv kws f fd) (S : FnScope N ps scope) (len : ∀ xs μ P R, fs xs μ P R → xs.length = ps.length)
    (bd : ∀ (cdv : Value) (A : Around) (outer : List Env) (s : Shared) (H : Hp) (E : XK), Room k (A.deeper (PyProof.Rows.envOfC qual scope s.heap.objs.size f cdv)) →
      ∃ ts ds, BSs (cxOf (L2.CX P w) P w K mg base N qual scope f cdv A outer s H E) (WxOf E) body ts ds ∧ ∀ xs μ P R, fs xs μ P R → ds (dnOf μ.length P R) (startW N.length xs) μ) : FnD P w K mg base (k + 1) f fd ps fs := by
  refine F.ok S (fun vs H Q E h => ?_) (fun cdv A outer s H vs Q E hr h => ?_)
  · obtain ⟨w, μ, xs, P, R, _, _, a, h, _⟩ := h
    rw [← a.length]
    exact len xs μ P R h
  · obtain ⟨w, μ, xs, P', R', rfl, ok, a, h, qn, qx⟩ := h
    obtain ⟨ts, ds, hb, hd⟩ := bd cdv A outer s w.H E hr
    refine ⟨ts, hb.ps, hb.sim ok (start_sto a) (hd xs μ P' R' h) ⟨fun s1 ok1 _ q => ?_, fun s1 ok1 a1 q => ?_, fun _ _ _ q => q.elim, fun _ _ _ q => q.elim, fun s1 ok1 _ xa q => ?_⟩⟩
    · exact rt_ok ok.len.symm s1 ok1 .imm q qn
    · exact rt_ok ok.len.symm s1 ok1 a1 q qn
    · obtain ⟨μ', h1, h2, r⟩ := q
      exact qx (Wd.cut _ μ'.length) μ' _ _ _ (s1.cut (by rw [ok.len]; exact h2)) (h1.ok ok1) xa r
theorem ok_fn {x qual : Str} {params : Arguments} {body : List Stmt} {scope : Scope} {kws : List (Str × V)} {fd : FuncData} (F : FunD K x qual params body scope [] kws f fd) (S : FnScope N ps scope)
    (hb : ∀ (kV doc pm : Value) (an : Option Addr) (cdv ct : Value) (us : List Value), us.length = ps.length → bindArgs (PySem.W.fnOf x qual params body scope .none kV doc pm an cdv ct) ⟨us, []⟩ = pure (ps.zip us))
    (len : ∀ xs μ P R, fs xs μ P R → xs.length = ps.length)
    (bd : ∀ (cdv : Value) (A : Around) (outer : List Env) (s : Shared) (H : Hp) (E : XK), Room k (A.deeper (PyProof.Rows.envOfC qual scope s.heap.objs.size f cdv)) →
      ∃ ts ds, BSs (cxOf (L2.CX P w) P w K mg base N qual scope f cdv A outer s H E) (WxOf E) body ts ds ∧ ∀ xs μ P R, fs xs μ P R → ds (dnOf μ.length P R) (startW N.length xs) μ) : Ok P w K mg base (k + 1) f ps [] fs :=
  ⟨fd, [], fn_dd F S len bd, F.bindsN hb, .nil, F.kp⟩
end

section
variable {X : Cx} {Wx : WX} {k : Nat} {f C : Addr} {ps : List Str} {fs : FS} {dvs : List V} {x : Str} {p pos apos : Pos} {a b e o : Expr} {es : List Expr} {ta tb : TE} {da db : DE} {tA : TA} {dA : DAr}
abbrev OkX (X : Cx) := Ok X.prog X.w X.K X.mg X.base
theorem b_call (h : OkX X k f ps dvs fs) (hr : Room k X.A) (hg : Gl X x) (hm : X.mg x = some (.ref f)) (tk : Takes X Wx) (ha : BA X Wx (e :: es) tA dA)
    (h1 : (x == ("__debug__" : Str)) = false := by decide) (h2 : starEach (e :: es) X.env = (false, eval e X.env) :: starEach es X.env := by rfl) (h3 : (backTo pos (starEach es X.env)).any (·.1) = false := by rfl) :
    BE X Wx (.Call (.Name x p) (e :: es) [] pos) (tDef X.K fs dvs Wx tA) (dDef fs dvs dA) := by
  obtain ⟨fd, ds, F, hb, hd, hk⟩ := h.ex
  exact b_def F hr hg hm hk hb hd tk ha h1 h2 h3
theorem b_make (M : Mk X.K C f) (h : OkX X k f ps dvs fs) (hr : Room (k + 1) X.A) (hg : Gl X x) (hm : X.mg x = some (.ref C)) (tk : Takes X Wx) (ha : BA X Wx (e :: es) tA dA)
    (h1 : (x == ("__debug__" : Str)) = false := by decide) (h2 : starEach (e :: es) X.env = (false, eval e X.env) :: starEach es X.env := by rfl) (h3 : (backTo pos (starEach es X.env)).any (·.1) = false := by rfl) :
    BE X Wx (.Call (.Name x p) (e :: es) [] pos) (tNew X.K C fs dvs Wx tA) (dNew C fs dvs dA) := by
  obtain ⟨fd, ds, F, hb, hd, hk⟩ := h.ex
  exact b_new M F hr hg hm hb hd tk ha h1 h2 h3
/-- // and * of ints of any size -/
theorem b_fdivW (ha : BE X Wx a ta da) (hb : BE X Wx b tb db) : BE X Wx (.BinOp a .FloorDiv b pos) (tOp (rI CDivW fun i j => .int (i / j)) ta tb) (dOp (dI CDivW fun i j => .int (i / j)) da db) := b_op op_fdivW op2_I ha hb
theorem op_mulB : OpR X (binaryOp .Mult) (rI (fun i j => CMul i j ∨ CMulW i j) fun i j => .int (i * j)) := opI fun _ _ _ _ _ _ _ hc q => PyProof.Rows.mul_int q (hc.elim CMul.ok CMulW.ok)
theorem b_mulI (ha : BE X Wx a ta da) (hb : BE X Wx b tb db) : BE X Wx (.BinOp a .Mult b pos) (tOp (rI (fun i j => CMul i j ∨ CMulW i j) fun i j => .int (i * j)) ta tb) (dOp (dI (fun i j => CMul i j ∨ CMulW i j) fun i j => .int (i * j)) da db) := b_op op_mulB op2_I ha hb
theorem b_setL {tl ti te : TE} {dl di de : DE} {i : Expr} {p2 : Pos} (hl : BE X Wx o tl dl) (hi : BE X Wx i ti di) (h : BE X Wx e te de) (hg : PG X (.Subscript o i p2) (gSub tl ti rSetL)) (hs : swapsWithSole [.Subscript o i p2] e pos.line X.env = pure false := by rfl) (hw : swappedStores [.Subscript o i p2] e X.env = pure none := by rfl)
    (h1 : (assignEach [.Subscript o i p2] X.env).map (·.2) = [assign (.Subscript o i p2) X.env] := by rfl) : BS X Wx (.Assign [.Subscript o i p2] e pos) (tAsg te (gSub tl ti rSetL)) (dSet dl di de) := ⟨ps_asg h.pe hg hs hw h1, sim_set hl.sim hi.sim h.sim⟩
end
end DL

set_option Elab.async false
set_option linter.all false
set_option maxRecDepth 100000
set_option maxHeartbeats 4000000
/-! DL, part thirteen: reading: each piece told once, from the outside in. -/
namespace DL
open PySem L2 Evl

/-- what is there is handed on; behind a thing that isn't known nothing is read -/
def Got {α : Type} (o : Option α) (P : α → Prop) : Prop := ∃ x, o = some x ∧ P x
theorem Got.of {α : Type} {o : Option α} {x : α} {P : α → Prop} (e : o = some x) (p : P x) : Got o P := ⟨x, e, p⟩

/-! what stands still is not read behind -/
section
variable {ρ : Rho} {μ : Mu} {P : PN} {R : PX} {d : Dn} {x y : W} {i j : Int} {k : Nat}
/-! ### statements -/
/-! ### expressions -/
def slot (ρ : Rho) (k : Nat) : Option W := (ρ[k]?).join
/-! ### lists -/
def mlist (μ : Mu) (k : Nat) : Option (List D) := match μ[k]? with
  | some (.lst ds) => some ds
  | _ => none
theorem mlist_ok {ds : List D} (h : mlist μ k = some ds) : μ[k]? = some (.lst ds) := by
  unfold mlist at h
  split at h
  · cases h
    assumption
  · cases h
theorem seq_m : seqOf μ (.m k) = (mlist μ k).map fun ds => (ds, false) := by
  unfold seqOf mlist
  cases q : μ[k]? with
  | none => simp [q]
  | some o => cases o <;> simp [q]
theorem ix_seq {ds : List D} {l : Bool} (h : seqOf μ x = some (ds, l)) (hs : ∀ z, x ≠ ws z) : dIx x (.d (.v (.int i))) μ P R = Got (atI ds i) (@B1 _ ⟨fun d => P (item l d) μ⟩) := by
  apply propext
  constructor
  · rintro ⟨_, e, h'⟩
    cases e
    rcases h' with ⟨ds', l', d, e, ha, p⟩ | ⟨z, c, e, _⟩
    · rw [h] at e
      cases e
      exact ⟨d, ha, p⟩
    · exact absurd e (hs z)
  · rintro ⟨d, ha, p⟩
    exact ⟨_, rfl, .inl ⟨ds, l, d, h, ha, p⟩⟩
theorem at_0 {α : Type} {a : α} {r : List α} : atI (a :: r) 0 = some a := by simp [atI, ixN]
theorem at_1 {α : Type} {a b : α} {r : List α} : atI (a :: b :: r) 1 = some b := by
  have h : (1 : Int) < ((a :: b :: r).length : Nat) := by simp; omega
  simp [atI, ixN] at h ⊢
  simp [h]
theorem at_2 {α : Type} {a b c : α} {r : List α} : atI (a :: b :: c :: r) 2 = some c := by
  have h : (2 : Int) < ((a :: b :: c :: r).length : Nat) := by simp; omega
  simp [atI, ixN] at h ⊢
  simp [h]
theorem at_3 {α : Type} {a b c d : α} {r : List α} : atI (a :: b :: c :: d :: r) 3 = some d := by
  have h : (3 : Int) < ((a :: b :: c :: d :: r).length : Nat) := by simp; omega
  simp [atI, ixN] at h ⊢
  simp [h]
theorem at_4 {α : Type} {a b c d e : α} {r : List α} : atI (a :: b :: c :: d :: e :: r) 4 = some e := by
  have h : (4 : Int) < ((a :: b :: c :: d :: e :: r).length : Nat) := by simp; omega
  simp [atI, ixN] at h ⊢
  simp [h]
theorem at_5 {α : Type} {a b c d e f : α} {r : List α} : atI (a :: b :: c :: d :: e :: f :: r) 5 = some f := by
  have h : (5 : Int) < ((a :: b :: c :: d :: e :: f :: r).length : Nat) := by simp; omega
  simp [atI, ixN] at h ⊢
  simp [h]
theorem at_6 {α : Type} {a b c d e f g : α} {r : List α} : atI (a :: b :: c :: d :: e :: f :: g :: r) 6 = some g := by
  have h : (6 : Int) < ((a :: b :: c :: d :: e :: f :: g :: r).length : Nat) := by simp; omega
  simp [atI, ixN] at h ⊢
  simp [h]
theorem at_7 {α : Type} {a b c d e f g h : α} {r : List α} : atI (a :: b :: c :: d :: e :: f :: g :: h :: r) 7 = some h := by
  have h : (7 : Int) < ((a :: b :: c :: d :: e :: f :: g :: h :: r).length : Nat) := by simp; omega
  simp [atI, ixN] at h ⊢
  simp [h]

/-! ### things made, things changed -/
theorem alls_d {a : D} {r : List W} : alls (.d a :: r) = (alls r).map (a :: ·) := rfl
theorem newLst_D {ds : List D} (h : P (.d (.lst ds)) μ) : newLst ds μ P := .inl h
/-- xs[i] = e, xs.append(e) -/
def DatW (y : W) (P : D → Prop) : Prop := ∃ z, y = .d z ∧ P z
/-! ### ends -/
/-! ### walks -/
theorem Wkn.imp {n : Nat} {N M : Rho → Mu → Prop} (h : Wkn n N ρ μ) (k : ∀ ρ μ, N ρ μ → M ρ μ) : Wkn n M ρ μ := by
  obtain ⟨ρ', μ', h1, h2, h3, h4, h5⟩ := h
  exact ⟨ρ', μ', h1, h2, h3, h4, k _ _ h5⟩
theorem WkM.refl : ∀ {μ : Mu}, WkM μ μ
  | [] => .nil
  | _ :: _ => .keep WkM.refl
/-! ### calls of defs that only answer -/
/-- data in, a datum out -/
def pureFS (pre : List D → Prop) (out : List D → D) : FS := fun xs μ P _ => ∃ ds, xs = ds.map .d ∧ pre ds ∧ μ = [] ∧ P (.d (out ds)) []
theorem pass_all {μ : Mu} : ∀ {ds : List D}, PassAs μ [] [] (ds.map .d) (ds.map .d)
  | [] => .nil
  | _ :: _ => .cons (.d _) pass_all
theorem alls_eq : ∀ {xs : List W} {ds : List D}, alls xs = some ds → xs = ds.map .d
  | [], _, e => by cases e; rfl
  | .d x :: r, ds, e => by
    rw [alls_d] at e
    cases q : alls r with
    | none => rw [q] at e; cases e
    | some l =>
      rw [q] at e
      cases e
      rw [alls_eq q]
      rfl
  | .b x :: r, _, e => by cases e
  | .m x :: r, _, e => by cases e
def dPure (pre : List D → Prop) (out : List D → D) (dvs : List V) (da : DAr) : DE := fun ρ μ P R => da ρ μ (fun xs μ1 => Got (alls (xs ++ dws dvs)) fun ds => pre ds ∧ P (.d (out ds)) μ1) R
theorem ixN_nat {n m : Nat} (h : m < n) : ixN n (m : Int) = some m := by simp [ixN, h]
theorem ixN_1_0 : ixN 1 0 = some 0 := rfl
theorem ixN_2_0 : ixN 2 0 = some 0 := rfl
theorem ixN_2_1 : ixN 2 1 = some 1 := rfl
theorem ixN_3_0 : ixN 3 0 = some 0 := rfl
theorem ixN_3_1 : ixN 3 1 = some 1 := rfl
theorem ixN_3_2 : ixN 3 2 = some 2 := rfl
theorem ixN_4_0 : ixN 4 0 = some 0 := rfl
theorem ixN_4_1 : ixN 4 1 = some 1 := rfl
theorem ixN_4_2 : ixN 4 2 = some 2 := rfl
theorem ixN_4_3 : ixN 4 3 = some 3 := rfl
theorem ixN_5_0 : ixN 5 0 = some 0 := rfl
theorem ixN_5_1 : ixN 5 1 = some 1 := rfl
theorem ixN_5_2 : ixN 5 2 = some 2 := rfl
theorem ixN_5_3 : ixN 5 3 = some 3 := rfl
theorem ixN_5_4 : ixN 5 4 = some 4 := rfl
end
section
variable {K : PySem.W.Frag} {Wx : WX} {w : Wd}
end
section
variable {X : Cx} {Wx : WX} {k : Nat} {f C : Addr} {ps : List Str} {dvs : List V} {x : Str} {p pos apos : Pos} {a b e o : Expr} {es : List Expr} {ta tb : TE} {da db : DE} {tA : TA} {dA : DAr} {pre : List D → Prop} {out : List D → D}
end
end DL

set_option Elab.async false
set_option linter.all false
set_option maxRecDepth 100000
set_option maxHeartbeats 4000000
/-! DL, part fourteen: operators of a class from the other side, == by the class's own, == of data. -/
namespace DL
open PySem L2 Evl PySem.W
section
variable {prog : Program} {w : World} {A : Around} {E : Value → Shared → Prop} {s : Shared} {K : PySem.W.Frag} {x C L f : Addr} {h₀ : Heap} {m : Str → Option Value} {ox : Obj} {od : Option Obj}
end
section
variable {X : Cx} {k : Nat} {f C : Addr} {fd : FuncData} {ps : List Str} {fs : FS}
/-- what the other side is -/
inductive Ty2 (K : PySem.W.Frag) (H : Hp) : V → Value → Prop
  | ins {b D dx : Addr} {gs : List (Str × V)} : H b = some (.ins D dx gs) → Ty2 K H (.ref b) (.ref D)
  | tup {b : Addr} {ys : List V} : SqT K H b ys → Ty2 K H (.ref b) (.type "tuple")
def rEqOwn (K : PySem.W.Frag) (C : Addr) (fs : FS) : R2 := fun x y H Q =>
  ((∃ a dx gs t, x = .ref a ∧ H a = some (.ins C dx gs) ∧ Ty2 K H y t ∧ notFirst K C t = true) ∧ toSp K fs [x, y] H (fun v H' => (∃ b, v = .bl b) ∧ Q v H') (fun _ _ _ => False)) ∨
  ((∃ a b ys dx gs, x = .ref a ∧ y = .ref b ∧ SqT K H a ys ∧ H b = some (.ins C dx gs) ∧ subIn K (.ref C) (.type "tuple") = some false) ∧ toSp K fs [y, x] H (fun v H' => (∃ b, v = .bl b) ∧ Q v H') (fun _ _ _ => False))
/-- n * a by the class's own -/
def rRefl (K : PySem.W.Frag) (C : Addr) (fs : FS) : R2 := fun x y H Q => (∃ a dx gs i, x = .int i ∧ y = .ref a ∧ H a = some (.ins C dx gs)) ∧ toSp K fs [y, x] H (fun v H' => (∃ c, v = .ref c) ∧ Q v H') (fun _ _ _ => False)
end
/-! ### the same by data -/
section
variable {K : PySem.W.Frag} {Wx : WX} {w w1 w2 w' : Wd} {σ : L2.St} {ρ : Rho} {μ : Mu} {fs : FS} {C : Addr}
/-- the type of what a name holds, for == -/
def tyE (μ : Mu) (y : W) : Option Value := match insOf μ y with
  | some (D, _, _) => some (.ref D)
  | none => match y with
    | .d (.tup _) => some (.type "tuple")
    | .b (.tup _) => some (.type "tuple")
    | _ => none
def isTup : W → Bool
  | .d (.tup _) => true
  | .b (.tup _) => true
  | _ => false
def dEqOwn (K : PySem.W.Frag) (C : Addr) (fs : FS) : D2 := fun x y μ P _ =>
  (∃ gs l t, insOf μ x = some (C, gs, l) ∧ tyE μ y = some t ∧ notFirst K C t = true ∧ CallW fs [x, y] μ (fun z μ3 => (∃ b, z = wb b) ∧ P z μ3) noX) ∨
  (∃ gs l, isTup x = true ∧ insOf μ y = some (C, gs, l) ∧ subIn K (.ref C) (.type "tuple") = some false ∧ CallW fs [y, x] μ (fun z μ3 => (∃ b, z = wb b) ∧ P z μ3) noX)
def dRefl (C : Addr) (fs : FS) : D2 := fun x y μ P _ => ∃ gs l i, x = wi i ∧ insOf μ y = some (C, gs, l) ∧ CallW fs [y, x] μ (fun z μ3 => (∃ q, z = .d (.obj C q)) ∧ P z μ3) noX
/-! data as plain values -/
mutual
def pyD : D → Option PyData
  | .v .non => some .none
  | .v (.bl b) => some (.bool b)
  | .v (.int i) => some (.int i)
  | .v (.str x) => some (.str x)
  | .v _ => none
  | .tup ds => (pyDs ds).map .tuple
  | .lst ds => (pyDs ds).map .list
  | .scr ds => (pyDs ds).map .list
  | .obj _ _ => none
  | .dT _ => none
  | .dK _ => none
  | .xc _ _ _ => none
def pyDs : List D → Option (List PyData)
  | [] => some []
  | d :: r => (pyD d).bind fun x => (pyDs r).map (x :: ·)
end
mutual
theorem pyD_ok {G : Hp} : ∀ {d : D} {v : V} {p : PyData}, At K G d v → pyD d = some p → Dp K G v p
  | .v .non, _, _, h, e => by cases h; cases e; exact .non
  | .v (.bl b), _, _, h, e => by cases h; cases e; exact .bl b
  | .v (.int b), _, _, h, e => by cases h; cases e; exact .int b
  | .v (.str b), _, _, h, e => by cases h; cases e; exact .str b
  | .v (.byt _), _, _, _, e => by cases e
  | .v (.flt _), _, _, _, e => by cases e
  | .v (.ref _), _, _, _, e => by cases e
  | .v (.ty _), _, _, _, e => by cases e
  | .tup ds, _, _, h, e => by
    rw [pyD] at e
    cases q : pyDs ds with
    | none => rw [q] at e; cases e
    | some l =>
      rw [q] at e
      cases e
      cases h with
      | tup h1 h2 => exact .tup h1 (pyDs_ok h2 q)
  | .lst ds, _, _, h, e => by
    rw [pyD] at e
    cases q : pyDs ds with
    | none => rw [q] at e; cases e
    | some l =>
      rw [q] at e
      cases e
      cases h with
      | lst h1 h2 => exact .lst (sq_of h1) (pyDs_ok h2 q)
  | .scr ds, _, _, h, e => by
    rw [pyD] at e
    cases q : pyDs ds with
    | none => rw [q] at e; cases e
    | some l =>
      rw [q] at e
      cases e
      cases h with
      | scr h1 h2 => exact .lst h1 (pyDs_ok h2 q)
  | .obj _ _, _, _, _, e => by cases e
  | .dT _, _, _, _, e => by cases e
  | .dK _, _, _, _, e => by cases e
  | .xc _ _ _, _, _, _, e => by cases e
theorem pyDs_ok {G : Hp} : ∀ {ds : List D} {vs : List V} {ps : List PyData}, Ats K G ds vs → pyDs ds = some ps → DpAll K G vs ps
  | [], _, _, h, e => by cases h; cases e; exact .nil
  | d :: r, _, _, h, e => by
    rw [pyDs] at e
    cases q1 : pyD d with
    | none => rw [q1] at e; cases e
    | some x =>
      rw [q1] at e
      cases q2 : pyDs r with
      | none => rw [q2] at e; cases e
      | some l =>
        rw [q2] at e
        cases e
        cases h with
        | cons h1 h2 => exact .cons (pyD_ok h1 q1) (pyDs_ok h2 q2)
end
mutual
theorem Dp.mono {G G' : Hp} (e : Ex G G') : ∀ {v : V} {p : PyData}, Dp K G v p → Dp K G' v p
  | _, _, .non => .non
  | _, _, .bl b => .bl b
  | _, _, .int b => .int b
  | _, _, .str b => .str b
  | _, _, .lst h t => .lst (ex_l e h) (DpAll.mono e t)
  | _, _, .tup h t => .tup (ex_t e h) (DpAll.mono e t)
theorem DpAll.mono {G G' : Hp} (e : Ex G G') : ∀ {v : List V} {p : List PyData}, DpAll K G v p → DpAll K G' v p
  | _, _, .nil => .nil
  | _, _, .cons h t => .cons (Dp.mono e h) (DpAll.mono e t)
end
def pyW (μ : Mu) : W → Option PyData
  | .d x => pyD x
  | .b x => pyD x
  | .m k => match μ[k]? with
    | some (.lst ds) => pyD (.lst ds)
    | _ => none
theorem pyW_ok (ok : WOk K w μ) {x : W} {v : V} {p : PyData} (h : WAt K w x v) (e : pyW μ x = some p) : Dp K w.H v p := by
  cases x with
  | d x => exact Dp.mono (ok.gb.trans ok.bh) (pyD_ok h e)
  | b x => exact Dp.mono ok.bh (pyD_ok h e)
  | m k =>
    obtain ⟨a, h1, rfl⟩ := h
    have e' : (match μ[k]? with
      | some (.lst ds) => pyD (.lst ds)
      | _ => none) = some p := e
    cases q : μ[k]? with
    | none => rw [q] at e'; cases e'
    | some o =>
      rw [q] at e'
      cases o with
      | lst dd =>
        obtain ⟨_, xs, h2, h3⟩ := ok.mu k a _ h1 q
        exact pyD_ok (G := w.H) (At.lst h2 (h3.mono (ok.gb.trans ok.bh))) e'
      | ins _ _ => cases e'
      | dT _ => cases e'
      | dK _ => cases e'
      | dead => cases e'
def dEqD : D2 := fun x y μ P _ => ∃ p q, pyW μ x = some p ∧ pyW μ y = some q ∧ SeqAt.shaped p = true ∧ SeqAt.shaped q = true ∧ P (wb (PyData.eqv p q)) μ
theorem op2_eqD : Op2 K Wx (rEqD K) dEqD := fun ok hx hy h _ qn _ => by
  obtain ⟨p, q, e1, e2, s1, s2, h⟩ := h
  exact ⟨p, q, pyW_ok ok hx e1, pyW_ok ok hy e2, s1, s2, qn.now ok .imm h⟩
def dNeD : D2 := fun x y μ P _ => ∃ p q, pyW μ x = some p ∧ pyW μ y = some q ∧ SeqAt.shaped p = true ∧ SeqAt.shaped q = true ∧ P (wb (!PyData.eqv p q)) μ
theorem op2_neD : Op2 K Wx (rNeD K) dNeD := fun ok hx hy h _ qn _ => by
  obtain ⟨p, q, e1, e2, s1, s2, h⟩ := h
  exact ⟨p, q, pyW_ok ok hx e1, pyW_ok ok hy e2, s1, s2, qn.now ok .imm h⟩
end
/-! ### both sides -/
section
variable {X : Cx} {Wx : WX} {k : Nat} {f g C : Addr} {ps : List Str} {fs : FS} {pos : Pos} {a b : Expr} {ta tb : TE} {da db : DE}
end
end DL

set_option Elab.async false
set_option linter.all false
set_option maxRecDepth 100000
set_option maxHeartbeats 4000000
/-! DL, part fifteen: dicts. -/
namespace DL
open PySem L2 Evl
section
variable {κ : Type} [DecidableEq κ] {α : Type}
def valA (kvs : List (κ × α)) (k : κ) : Option α := (kvs.find? fun kv => decide (kv.1 = k)).map (·.2)
def putA (kvs : List (κ × α)) (k : κ) (v : α) : List (κ × α) :=
  if (kvs.any fun kv => decide (kv.1 = k)) = true then kvs.map (fun kv => if kv.1 = k then (kv.1, v) else kv) else kvs ++ [(k, v)]
end
/-- the same keys, values that stand for data -/
def AtA {κ : Type} (K : PySem.W.Frag) (G : Hp) (ds : List (κ × D)) (vs : List (κ × V)) : Prop := ds.map (·.1) = vs.map (·.1) ∧ Ats K G (ds.map (·.2)) (vs.map (·.2))
section
variable {κ : Type} [DecidableEq κ] {K : PySem.W.Frag} {G : Hp}
theorem AtA.cons {k : κ} {d : D} {v : V} {ds : List (κ × D)} {vs : List (κ × V)} (h : At K G d v) (t : AtA K G ds vs) : AtA K G ((k, d) :: ds) ((k, v) :: vs) := ⟨by simp [t.1], .cons h t.2⟩
theorem AtA.uncons {p : κ × D} {q : κ × V} {ds : List (κ × D)} {vs : List (κ × V)} (h : AtA K G (p :: ds) (q :: vs)) : p.1 = q.1 ∧ At K G p.2 q.2 ∧ AtA K G ds vs := by
  obtain ⟨h1, h2⟩ := h
  simp only [List.map_cons, List.cons.injEq] at h1
  cases h2 with
  | cons a t => exact ⟨h1.1, a, h1.2, t⟩
theorem AtA.val (k : κ) : ∀ {ds : List (κ × D)} {vs : List (κ × V)}, AtA K G ds vs → (valA ds k = none ∧ valV vs k = none) ∨ ∃ d v, valA ds k = some d ∧ valV vs k = some v ∧ At K G d v
  | [], [], _ => .inl ⟨rfl, rfl⟩
  | p :: ds, q :: vs, h => by
    obtain ⟨e, a, t⟩ := h.uncons
    unfold valA valV
    rw [List.find?_cons, List.find?_cons, ← e]
    by_cases c : p.1 = k
    · rw [decide_eq_true c]
      exact .inr ⟨_, _, rfl, rfl, a⟩
    · rw [decide_eq_false c]
      exact AtA.val k t
  | [], _ :: _, h => by simp [AtA] at h
  | _ :: _, [], h => by simp [AtA] at h
theorem AtA.any (k : κ) : ∀ {ds : List (κ × D)} {vs : List (κ × V)}, AtA K G ds vs → (ds.any fun kv => decide (kv.1 = k)) = (vs.any fun kv => decide (kv.1 = k))
  | [], [], _ => rfl
  | p :: ds, q :: vs, h => by
    obtain ⟨e, a, t⟩ := h.uncons
    rw [List.any_cons, List.any_cons, e, AtA.any k t]
  | [], _ :: _, h => by simp [AtA] at h
  | _ :: _, [], h => by simp [AtA] at h
theorem AtA.repl (k : κ) {d : D} {v : V} (hd : At K G d v) : ∀ {ds : List (κ × D)} {vs : List (κ × V)}, AtA K G ds vs → AtA K G (ds.map fun kv => if kv.1 = k then (kv.1, d) else kv) (vs.map fun kv => if kv.1 = k then (kv.1, v) else kv)
  | [], [], _ => ⟨rfl, .nil⟩
  | (p, p') :: ds, (q, q') :: vs, h => by
    obtain ⟨e, a, t⟩ := h.uncons
    obtain rfl : p = q := e
    rw [List.map_cons, List.map_cons]
    by_cases c : p = k
    · rw [if_pos c, if_pos c]
      exact (AtA.repl k hd t).cons hd
    · rw [if_neg c, if_neg c]
      exact (AtA.repl k hd t).cons a
  | [], _ :: _, h => by simp [AtA] at h
  | _ :: _, [], h => by simp [AtA] at h
theorem AtA.put {k : κ} {d : D} {v : V} (hd : At K G d v) {ds : List (κ × D)} {vs : List (κ × V)} (h : AtA K G ds vs) : AtA K G (putA ds k d) (putK vs k v) := by
  unfold putA putK
  rw [h.any k]
  split
  · exact h.repl k hd
  · refine ⟨by simp [h.1], ?_⟩
    rw [List.map_append, List.map_append]
    exact h.2.append (.cons hd .nil)
theorem AtA.len {ds : List (κ × D)} {vs : List (κ × V)} (h : AtA K G ds vs) : ds.length = vs.length := by
  have := congrArg List.length h.1
  simpa using this
end
section
variable {K : PySem.W.Frag} {G : Hp}
theorem AtT.a : ∀ {ds : List (List Key × D)} {vs : List (List Key × V)}, AtT K G ds vs → AtA K G ds vs
  | _, _, .nil => ⟨rfl, .nil⟩
  | _, _, .cons h t => (AtT.a t).cons h
theorem AtK.a : ∀ {ds : List (Key × D)} {vs : List (Key × V)}, AtK K G ds vs → AtA K G ds vs
  | _, _, .nil => ⟨rfl, .nil⟩
  | _, _, .cons h t => (AtK.a t).cons h
theorem AtA.t : ∀ {ds : List (List Key × D)} {vs : List (List Key × V)}, AtA K G ds vs → AtT K G ds vs
  | [], [], _ => .nil
  | (p, p') :: ds, (q, q') :: vs, h => by
    obtain ⟨e, a, t⟩ := h.uncons
    obtain rfl : p = q := e
    exact .cons a (AtA.t t)
  | [], _ :: _, h => by simp [AtA] at h
  | _ :: _, [], h => by simp [AtA] at h
theorem AtA.k : ∀ {ds : List (Key × D)} {vs : List (Key × V)}, AtA K G ds vs → AtK K G ds vs
  | [], [], _ => .nil
  | (p, p') :: ds, (q, q') :: vs, h => by
    obtain ⟨e, a, t⟩ := h.uncons
    obtain rfl : p = q := e
    exact .cons a (AtA.k t)
  | [], _ :: _, h => by simp [AtA] at h
  | _ :: _, [], h => by simp [AtA] at h
end
def mdk (μ : Mu) (k : Nat) : Option (List (Key × D)) := match μ[k]? with
  | some (.dK kvs) => some kvs
  | _ => none
def mdt (μ : Mu) (k : Nat) : Option (List (List Key × D)) := match μ[k]? with
  | some (.dT kvs) => some kvs
  | _ => none
def keyD : D → Option Key
  | .v (.int i) => some (.inl i)
  | .v (.str s) => some (.inr s)
  | _ => none
def keyW : W → Option Key
  | .d x => keyD x
  | _ => none
def keysW : List W → Option (List Key)
  | [] => some []
  | x :: r => (keyW x).bind fun k => (keysW r).map (k :: ·)
section
variable {K : PySem.W.Frag} {Wx : WX} {w w1 w2 w' : Wd} {σ : L2.St} {ρ : Rho} {μ : Mu}
/-! ### {} -/
def dDNewK : DE := fun _ μ P _ => P (.m μ.length) (μ ++ [.dK []])
def dDNewT : DE := fun _ μ P _ => P (.m μ.length) (μ ++ [.dT []])
/-! ### d[k], d.get(k, e), d[k] = e: keys ints and texts -/
def dDGetK (dx dy : DE) : DE := fun ρ μ P R => dx ρ μ (fun x μ1 => dy ρ μ1 (fun y μ2 => ∃ k, x = .m k ∧ Got (mdk μ2 k) fun kvs => Got (keyW y) fun key => Got (valA kvs key) fun d => P (.d d) μ2) R) R
def dDGet2K (dx dy dz : DE) : DE := fun ρ μ P R => dx ρ μ (fun x μ1 => ∃ k, x = .m k ∧ Got (mdk μ1 k) fun _ => dy ρ μ1 (fun y μ2 => dz ρ μ2 (fun z μ3 => Got (mdk μ3 k) fun kvs => Got (keyW y) fun key => P (((valA kvs key).map W.d).getD z) μ3) R) R) R
def dDPutK (dx dy dv : DE) : DSt := fun d ρ μ => dv ρ μ (fun z μ1 => dx ρ μ1 (fun x μ2 => dy ρ μ2 (fun y μ3 => ∃ k zd, x = .m k ∧ z = .d zd ∧ Got (mdk μ3 k) fun kvs => Got (keyW y) fun key => small (kvs.length + 1) ∧ d.nx ρ (μ3.set k (.dK (putA kvs key zd)))) (d.x ρ)) (d.x ρ)) (d.x ρ)
/-! ### .. keys tuples, written out -/
def dDGetT (dx : DE) (dy : DAr) : DE := fun ρ μ P R => dx ρ μ (fun x μ1 => dy ρ μ1 (fun ys μ2 => small ys.length ∧ ∃ k, x = .m k ∧ Got (mdt μ2 k) fun kvs => Got (keysW ys) fun key => Got (valA kvs key) fun d => P (.d d) μ2) R) R
def dDGet2T (dx : DE) (dy : DAr) (dz : DE) : DE := fun ρ μ P R => dx ρ μ (fun x μ1 => ∃ k, x = .m k ∧ Got (mdt μ1 k) fun _ => dy ρ μ1 (fun ys μ2 => small ys.length ∧ Got (keysW ys) fun key => dz ρ μ2 (fun z μ3 => Got (mdt μ3 k) fun kvs => P (((valA kvs key).map W.d).getD z) μ3) R) R) R
def dDPutT (dx : DE) (dy : DAr) (dv : DE) : DSt := fun d ρ μ => dv ρ μ (fun z μ1 => dx ρ μ1 (fun x μ2 => dy ρ μ2 (fun ys μ3 => small ys.length ∧ ∃ k zd, x = .m k ∧ z = .d zd ∧ Got (mdt μ3 k) fun kvs => Got (keysW ys) fun key => small (kvs.length + 1) ∧ d.nx ρ (μ3.set k (.dT (putA kvs key zd)))) (d.x ρ)) (d.x ρ)) (d.x ρ)
end
section
variable {X : Cx} {Wx : WX} {k : Nat} {o i e f value : Expr} {pos pos' apos cpos : Pos} {tx ty tz tv : TE} {dx dy dz dv : DE} {es : List Expr} {tA : TA} {dA : DAr}
end
end DL

set_option Elab.async false
set_option linter.all false
set_option maxRecDepth 100000
set_option maxHeartbeats 4000000
/-! DL, part sixteen: sorted. -/
namespace DL
open PySem L2 Evl PySem.Spec PyProof.Rows
section
variable {K : PySem.W.Frag} {Wx : WX} {w w1 w2 w' : Wd} {σ : L2.St} {ρ : Rho} {μ : Mu}
/-- a tuple that stands in the heap is taken into the world -/
theorem WOk.ownT {p : Addr} {xs : List V} (ok : WOk K w μ) (hp : w.H p = some (.tup xs)) : WOk K (w.own p (.tup xs)) μ := by
  refine ⟨upd_ex ok.gb, fun b q h => ?_, ok.nd, ok.len, fun j a z h1 h2 => ?_, ok.has⟩
  · by_cases e : b = p
    · have h' : upd w.B p (.tup xs) b = some q := h
      rw [e, upd_same] at h'
      cases h'
      rw [e]
      exact hp
    · have h' : upd w.B p (.tup xs) b = some q := h
      rw [upd_ne e] at h'
      exact ok.bh b q h'
  · have m := ok.mu j a z h1 h2
    by_cases e : a = p
    · subst e
      cases z with
      | lst _ => obtain ⟨_, _, q, _⟩ := m; rw [hp] at q; cases q
      | ins _ _ => obtain ⟨_, _, _, q, _⟩ := m; rw [hp] at q; cases q
      | dT _ => obtain ⟨_, _, q, _⟩ := m; rw [hp] at q; cases q
      | dK _ => obtain ⟨_, _, q, _⟩ := m; rw [hp] at q; cases q
      | dead => trivial
    · refine MOk.step_ne (w := w) (fun b o h => ?_) (fun z => by show upd w.B p (.tup xs) a = none; rw [upd_ne e]; exact z) rfl m
      show upd w.G p (.tup xs) b = some o
      by_cases q : b = p
      · subst q
        rw [upd_same]
        have := ok.bh _ _ (ok.gb _ _ h)
        rw [hp] at this
        exact this
      · rw [upd_ne q]
        exact h
theorem Step.ownT {p : Addr} {xs : List V} (ok : WOk K w μ) (hp : w.H p = some (.tup xs)) : Step w (w.own p (.tup xs)) := by
  refine ⟨fun b o h => ?_, fun b o h => ?_, ⟨[], by simp [Wd.own], by simp⟩, fun b o _ h => h, fun b h => ?_, fun b h => ?_, fun b h => h⟩
  · show upd w.G p (.tup xs) b = some o
    by_cases q : b = p
    · subst q
      rw [upd_same]
      have := ok.bh _ _ (ok.gb _ _ h)
      rw [hp] at this
      exact this
    · rw [upd_ne q]
      exact h
  · show upd w.B p (.tup xs) b = some o
    by_cases q : b = p
    · subst q
      rw [upd_same]
      have := ok.bh _ _ h
      rw [hp] at this
      exact this
    · rw [upd_ne q]
      exact h
  · by_cases q : b = p
    · exact .inr (.inr (.inr ⟨xs, by rw [q]; exact hp⟩))
    · refine .inl fun z => h ?_
      show upd w.G p (.tup xs) b = none
      rw [upd_ne q]
      exact z
  · by_cases q : b = p
    · exact .inr (.inr (.inr ⟨xs, by rw [q]; exact hp⟩))
    · refine .inl fun z => h ?_
      show upd w.B p (.tup xs) b = none
      rw [upd_ne q]
      exact z
end
/-! ### sorted(d), d with keys that are pairs of ints -/
def pk (p : Int × Int) : List Key := [.inl p.1, .inl p.2]
def lexLe (p q : Int × Int) : Prop := p.1 < q.1 ∨ (p.1 = q.1 ∧ p.2 ≤ q.2)
/-- the pair that a value's address holds -/
def pairAt (H : Hp) : Value → Int × Int
  | .ref b => match H b with
    | some (.tup [.int x, .int y]) => (x, y)
    | _ => (0, 0)
  | _ => (0, 0)
section
variable {X : Cx}
end
/-! ### the same by data -/
def pairD (p : Int × Int) : D := .tup [.int p.1, .int p.2]
def keyDat : Key → D
  | .inl i => .int i
  | .inr x => .str x
section
variable {K : PySem.W.Frag} {Wx : WX} {w w1 w2 w' : Wd} {σ : L2.St} {ρ : Rho} {μ : Mu}
def dSortT : DC := fun xs μ P _ => ∃ k kvs ps, xs = [.m k] ∧ mdt μ k = some kvs ∧ kvs.map (·.1) = ps.map pk ∧ ∀ qs : List (Int × Int), qs.Perm ps → qs.Pairwise lexLe → P (.d (.lst (qs.map pairD))) μ
/-- a list, standing or changing or lent -/
def isLst (μ : Mu) : W → Bool
  | .d (.lst _) => true
  | .d (.scr _) => true
  | .b (.lst _) => true
  | .m _ => true
  | _ => false
theorem lstS_ok (ok : WOk K w μ) {x : W} {v : V} {ds : List D} {l : Bool} (h : WAt K w x v) (e : seqOf μ x = some (ds, l)) (el : isLst μ x = true) : ∃ a xs, v = .ref a ∧ SqL K w.H a xs ∧ Ats K (wH w l) ds xs := by
  cases x with
  | d y =>
    cases h with
    | lst h1 h2 => cases e; exact ⟨_, _, rfl, sq_of (ok.gb.trans ok.bh _ _ h1), h2⟩
    | scr h1 h2 => cases e; exact ⟨_, _, rfl, ex_l (ok.gb.trans ok.bh) h1, h2⟩
    | v => cases e
    | tup _ _ => cases el
    | obj _ _ => cases e
    | dT _ _ => cases e
    | dK _ _ => cases e
    | xc _ _ => cases e
  | b y =>
    cases h with
    | lst h1 h2 => cases e; exact ⟨_, _, rfl, sq_of (ok.bh _ _ h1), h2⟩
    | scr _ _ => cases e
    | v => cases e
    | tup _ _ => cases el
    | obj _ _ => cases e
    | dT _ _ => cases e
    | dK _ _ => cases e
    | xc _ _ => cases e
  | m k =>
    rw [seq_m] at e
    cases q : mlist μ k with
    | none => rw [q] at e; cases e
    | some z =>
      rw [q] at e
      cases e
      obtain ⟨a, h1, rfl⟩ := h
      obtain ⟨_, xs, h2, h3⟩ := ok.mu k a _ h1 (mlist_ok q)
      exact ⟨a, xs, rfl, sq_of h2, h3⟩
def dSortI : DC := fun xs μ P _ => ∃ x l ns, xs = [x] ∧ seqOf μ x = some (List.map D.int ns, l) ∧ isLst μ x = true ∧ ∀ ns' : List Int, ns'.Perm ns → ns'.Pairwise (· ≤ ·) → P (.d (.lst (ns'.map D.int))) μ
theorem ats_ints {G : Hp} : ∀ {ns : List Int} {vs : List V}, Ats K G (ns.map D.int) vs → vs = ns.map V.int
  | [], _, h => by cases h; rfl
  | n :: r, _, h => by
    cases h with
    | cons a t =>
      cases a
      rw [ats_ints t]
      rfl
theorem ints_ats {G : Hp} : ∀ {ns : List Int}, Ats K G (ns.map D.int) (ns.map V.int)
  | [] => .nil
  | _ :: _ => .cons (.v _) ints_ats
/-- list(d): the keys -/
def dListK : DC := fun xs μ P _ => ∃ k kvs, xs = [.m k] ∧ mdk μ k = some kvs ∧ newLst (kvs.map fun kv => keyDat kv.1) μ P
end
end DL

set_option Elab.async false
set_option linter.all false
set_option maxRecDepth 100000
set_option maxHeartbeats 4000000
/-! DL, part seventeen: comprehensions with two fors, star parameters, clear, lists that stand from here on. -/
namespace DL
open PySem L2 Evl
section
variable {K : PySem.W.Frag} {Wx : WX} {w w1 w2 w' : Wd} {σ : L2.St} {ρ : Rho} {μ : Mu}
/-- two fors: the new list is a thing that changes, behind all others; what holds by the outer turn, within by the inner one -/
def Lc2I (xs : List W) (dg : DG) (dt : DTe) (di1 : DI) (dg1 : DG) (dt1 : DTe) (de : DE) (vs vs1 : List Nat) (ρ : Rho) (μ : Mu) (P : PN) : Prop := ∃ Inv : Nat → Mu → Prop, Inv 0 (μ ++ [.lst []]) ∧
  (∀ i x μ2, xs[i]? = some x → Inv i μ2 → ∃ N, dg x (wipeW ρ vs) μ2 N ∧ ∀ ρ3 μ3, N ρ3 μ3 → ∃ M, dt ρ3 μ3 M noX ∧ ∀ b μ4, M b μ4 →
    (b = true → ∃ N1, di1 ρ3 μ4 N1 noX ∧ ∀ ys μ5, N1 ys μ5 → ∃ J : Nat → Mu → Prop, J 0 μ5 ∧
      (∀ j y μ6, ys[j]? = some y → J j μ6 → ∃ N2, dg1 y (wipeW ρ3 vs1) μ6 N2 ∧ ∀ ρ7 μ7, N2 ρ7 μ7 → ∃ M2, dt1 ρ7 μ7 M2 noX ∧ ∀ b μ8, M2 b μ8 →
        (b = true → ∃ P', de ρ7 μ8 P' noX ∧ ∀ y μ9, P' y μ9 → ∃ z acc, y = .d z ∧ μ9[μ.length]? = some (.lst acc) ∧ small (acc.length + 1) ∧ LcOff μ5.length (μ9.set μ.length (.lst (acc ++ [z]))) (J (j + 1))) ∧ (b = false → LcOff μ5.length μ8 (J (j + 1)))) ∧
      ∀ μ6, J ys.length μ6 → LcOff (μ.length + 1) μ6 (Inv (i + 1))) ∧ (b = false → LcOff (μ.length + 1) μ4 (Inv (i + 1)))) ∧
  ∀ μ2, Inv xs.length μ2 → ∃ acc, μ2[μ.length]? = some (.lst acc) ∧ (P (.d (.lst acc)) (μ2.take μ.length) ∨ P (.m μ.length) μ2)
def dLc2 (di : DI) (dg : DG) (dt : DTe) (di1 : DI) (dg1 : DG) (dt1 : DTe) (de : DE) (vs vs1 : List Nat) : DE := fun ρ μ P R => di ρ μ (fun xs μ1 => Lc2I xs dg dt di1 dg1 dt1 de vs vs1 ρ μ1 P) R
/-- a state of the walk: the world so far -/
def LcT (K : PySem.W.Frag) (w1 : Wd) (Iv : Mu → Prop) (H' : Hp) : Prop := ∃ w' μ2, Step w1 w' ∧ WOk K w' μ2 ∧ w'.H = H' ∧ Iv μ2
theorem LcT.off {Iv : Mu → Prop} {n : Nat} {μ : Mu} (s : Step w1 w') (ok : WOk K w' μ) (hn : n = w1.α.length) (h : LcOff n μ Iv) : LcT K w1 Iv w'.H := by
  obtain ⟨μ6, hk, hl, p6⟩ := h
  exact ⟨w'.cut μ6.length, μ6, s.cut (by omega), hk.ok ok, rfl, p6⟩
/-! ### a def with a star parameter -/
def tStarC (K : PySem.W.Frag) (fs : FS) (Wx : WX) (t : TA) : TE := fun σ H Q => t σ H fun vs H1 => vs.length ≤ sizeLine ∧ ∀ p, H1 p = none → toSp K fs [.ref p] (upd H1 p (.tup vs)) Q (XkOf Wx σ)
def dStarC (fs : FS) (da : DAr) : DE := fun ρ μ P R => da ρ μ (fun xs μ1 => small xs.length ∧ Data xs (fun ds => CallW fs [.d (.tup ds)] μ1 P R) (fun ds => CallW fs [.b (.tup ds)] μ1 P R)) R
/-- xs.clear() -/
def dClear (dl : DE) : DSt := fun d ρ μ => dl ρ μ (fun x μ1 => ∃ k, x = .m k ∧ Got (mlist μ1 k) fun _ => d.nx ρ (μ1.set k (.lst []))) (d.x ρ)
/-! ### a list that changes no more -/
def frzW (k : Nat) (ds : List D) : Option W → Option W
  | some (.m j) => if j = k then some (.d (.lst ds)) else some (.m j)
  | x => x
/-- ahead of a statement: the list k stands for good from here on -/
def dFrz (k : Nat) (s : DSt) : DSt := fun d ρ μ => Got (mlist μ k) fun ds => s d (ρ.map (frzW k ds)) (μ.set k .dead)
theorem sim_frz {k : Nat} {ts : TS} {s : DSt} (h : SimS K Wx ts s) : SimS K Wx ts (dFrz k s) := fun {w σ ρ μ d De} ok st q e => by
  obtain ⟨ds, hm, q⟩ := q
  have hk : k < w.α.length := by rw [ok.len]; exact (List.getElem?_eq_some_iff.mp (mlist_ok hm)).1
  have ha : w.α[k]? = some w.α[k] := List.getElem?_eq_getElem hk
  obtain ⟨hb, xs, h1, h2⟩ := ok.mu k _ _ ha (mlist_ok hm)
  have ok2 := ok.freeze ha (mlist_ok hm) h1 hb
  have s2 := Step.freeze (xs := xs) ok ha hb
  have aG : At K (w.own w.α[k] (.lst xs)).G (.lst ds) (.ref w.α[k]) := At.lst upd_same (h2.mono s2.g)
  refine h (w := w.own w.α[k] (.lst xs)) ok2 ⟨by rw [List.length_map]; exact st.len, fun i x hx => ?_⟩ q (e.step s2)
  rw [List.getElem?_map] at hx
  cases hr : ρ[i]? with
  | none => rw [hr] at hx; cases hx
  | some o =>
    rw [hr] at hx
    cases o with
    | none => cases hx
    | some y =>
      obtain ⟨v, hv, av⟩ := st.at' i y hr
      refine ⟨v, hv, ?_⟩
      cases y with
      | d y => cases hx; exact WAt.step s2 av
      | b y => cases hx; exact WAt.step s2 av
      | m j =>
        have hx' : (if j = k then some (W.d (.lst ds)) else some (.m j)) = some x := by simpa [frzW] using hx
        by_cases ej : j = k
        · subst ej
          rw [if_pos rfl] at hx'
          cases hx'
          obtain ⟨a, h3, rfl⟩ := av
          rw [ha] at h3
          cases h3
          exact aG
        · rw [if_neg ej] at hx'
          cases hx'
          exact WAt.step s2 av
end
section
variable {X : Cx} {Wx : WX} {k : Nat} {f : Addr} {fs : FS} {x : Str} {p pos apos cpos : Pos} {e o : Expr} {es : List Expr} {tA : TA} {dA : DAr} {tl : TE} {dl : DE}
/-- a def with one star parameter keeps a promise of the tuple -/
structure OkS (P : Program) (w : World) (K : PySem.W.Frag) (mg : Str → Option Value) (base : Heap) (k : Nat) (f : Addr) (fs : FS) : Prop where
  run : FnR P w K mg base (L2.CX P w) k f fun vs H Q E => vs.length ≤ sizeLine ∧ ∀ p, H p = none → toSp K fs [.ref p] (upd H p (.tup vs)) Q E
  kp : PySem.W.keepIn K (.ref f) = true
theorem OkS.mono {P : Program} {w : World} {K : PySem.W.Frag} {mg : Str → Option Value} {base : Heap} {j : Nat} (h : OkS P w K mg base j f fs) (l : j ≤ k) : OkS P w K mg base k f fs := ⟨h.run.mono l, h.kp⟩
end
section
variable {P : Program} {w : World} {K : PySem.W.Frag} {mg : Str → Option Value} {base : Heap} {k : Nat} {f : Addr} {N : List Str} {fs : FS}
end
end DL

set_option Elab.async false
set_option linter.all false
set_option maxRecDepth 100000
set_option maxHeartbeats 4000000
/-! DL, part eighteen: walks of a list or a tuple; defs that only answer, as operators, methods, constructors. -/
namespace DL
open PySem L2 Evl
section
variable {X : Cx}
def iSeq (K : PySem.W.Frag) (tl : TE) : TI := fun σ H R => tl σ H fun x H1 => ∃ a, x = .ref a ∧ (((∃ xs, SqL K H1 a xs) ∧ R (Itl K a) H1) ∨ ((∃ xs, SqT K H1 a xs) ∧ R (Itt K a) H1))
theorem pi_seq {tg l : Expr} {tl : TE} (hl : PE X l tl) : PI X tg l (iSeq X.K tl) := ⟨fun pins s σ H R I h => thn (hl.run pins s σ H _ I h) fun v s1 ⟨x, H1, I1, r1, a, ex, q1⟩ => by
  subst ex
  cases r1
  have fp : ∀ b ∈ [s1.heap.objs.size], FpOk X pins H1 b := fun b hb => by
    rw [List.mem_singleton.mp hb]
    exact I1.fpOk (Nat.le_refl _) (I1.hok.fresh (Nat.le_refl _))
  rcases q1 with ⟨⟨xs, hq⟩, q⟩ | ⟨⟨xs, hq⟩, q⟩
  · obtain ⟨its, rv, p, hz⟩ := I1.list hq
    exact wpAny_pyIter_list p.isList ⟨_, [s1.heap.objs.size], _, _, H1, rfl, I1.kept (t' := s1.toks) fun b o e => Heap.get?_push_of_some _ e, turn_list a _, ⟨_, Heap.get?_push_size _ rfl, rfl, rfl⟩, fp, q⟩
  · obtain ⟨its, rv, p, hz⟩ := I1.tuple hq
    exact wpAny_pyIter_tuple (show s1.heap.IsTuple a its.toArray from p) ⟨_, [s1.heap.objs.size], _, _, H1, rfl, I1.kept (t' := s1.toks) fun b o e => Heap.get?_push_of_some _ e, turn_tuple a _, ⟨_, Heap.get?_push_size _ rfl, rfl, rfl⟩, fp, q⟩⟩
end
section
variable {K : PySem.W.Frag} {Wx : WX} {w w1 w2 w' : Wd} {σ : L2.St} {ρ : Rho} {μ : Mu}
/-- a list or a tuple -/
def dIS (de : DE) : DI := fun ρ μ P R => de ρ μ (fun x μ' => ∃ ds l k, fixOf x = some (ds, l, k) ∧ P (ds.map (item l)) μ') R
theorem sim_iS {te : TE} {de : DE} (h : Sim K Wx te de) : SimI K Wx (iSeq K te) (dIS de) := fun {w σ ρ μ P R} ok st q {Q} k kx =>
  h ok st q (fun w1 μ1 x v s1 ok1 a ⟨ds, l, kd, e, p⟩ => by
    cases kd with
    | true =>
      obtain ⟨b, xs, rfl, h1, h2⟩ := fixL_ok ok1 a e
      refine ⟨b, rfl, .inl ⟨⟨xs, ex_l (wH_ex ok1) h1⟩, k w1 μ1 _ _ s1 ok1 ⟨⟨_, _, by rw [length_items, h2.length]; exact walk_list (K := K) (a := b) (xs := xs), fun w' μ' s' ok' => ex_l ((wH_step s').trans (wH_ex ok')) h1, fun i x w' μ' v H' ex s' ok' y => ?_⟩⟩ p⟩⟩
      obtain ⟨rfl, ev⟩ := y
      exact ⟨w', .refl _, ok', rfl, (items_get h2 ex ev).step s'⟩
    | false =>
      obtain ⟨b, xs, rfl, h1, h2⟩ := fixT_ok ok1 a e
      refine ⟨b, rfl, .inr ⟨⟨xs, ex_t (wH_ex ok1) h1⟩, k w1 μ1 _ _ s1 ok1 ⟨⟨_, _, by rw [length_items, h2.length]; exact walk_tup (K := K) (a := b) (xs := xs), fun w' μ' s' ok' => ex_t ((wH_step s').trans (wH_ex ok')) h1, fun i x w' μ' v H' ex s' ok' y => ?_⟩⟩ p⟩⟩
      obtain ⟨rfl, ev⟩ := y
      exact ⟨w', .refl _, ok', rfl, (items_get h2 ex ev).step s'⟩) kx
/-! ### instances by defs that only answer -/
def OwnP (C : Addr) (pre : List D → Prop) (out : List D → D) (x y : W) (μ : Mu) (P : PN) : Prop := ∃ gs hs q, x = .d (.obj C gs) ∧ y = .d (.obj C hs) ∧ pre [.obj C gs, .obj C hs] ∧ out [.obj C gs, .obj C hs] = .obj C q ∧ P (.d (.obj C q)) μ
def dOwnP (C : Addr) (pre : List D → Prop) (out : List D → D) (da db : DE) : DE := fun ρ μ P R => da ρ μ (fun x μ1 => db ρ μ1 (fun y μ2 => OwnP C pre out x y μ2 P) R) R
def NegP (C : Addr) (pre : List D → Prop) (out : List D → D) (x : W) (μ : Mu) (P : PN) : Prop := ∃ gs, x = .d (.obj C gs) ∧ pre [.obj C gs] ∧ P (.d (out [.obj C gs])) μ
def dNegP (C : Addr) (pre : List D → Prop) (out : List D → D) (da : DE) : DE := fun ρ μ P R => da ρ μ (fun x μ1 => NegP C pre out x μ1 P) R
def OwnIP (C : Addr) (pre : List D → Prop) (out : List D → D) (x y : W) (μ : Mu) (P : PN) : Prop := ∃ gs i q, x = .d (.obj C gs) ∧ y = wi i ∧ pre [.obj C gs, .int i] ∧ out [.obj C gs, .int i] = .obj C q ∧ P (.d (.obj C q)) μ
def dOwnIP (C : Addr) (pre : List D → Prop) (out : List D → D) (da db : DE) : DE := fun ρ μ P R => da ρ μ (fun x μ1 => db ρ μ1 (fun y μ2 => OwnIP C pre out x y μ2 P) R) R
/-- n * a -/
def dReflP (C : Addr) (pre : List D → Prop) (out : List D → D) : D2 := fun x y μ P _ => ∃ gs i q, x = wi i ∧ y = .d (.obj C gs) ∧ pre [.obj C gs, .int i] ∧ out [.obj C gs, .int i] = .obj C q ∧ P (.d (.obj C q)) μ
/-- a == b by the class's own: of two instances, of an instance and a tuple, of a tuple and an instance -/
def dEqP (K : PySem.W.Frag) (C : Addr) (pre : List D → Prop) (out : List D → Bool) : D2 := fun x y μ P _ => ∃ a b, x = .d a ∧ y = .d b ∧
  ((∃ gs t, a = .obj C gs ∧ tyE μ (.d b) = some t ∧ PySem.W.notFirst K C t = true ∧ pre [a, b] ∧ P (wb (out [a, b])) μ) ∨ (∃ gs us, a = .tup us ∧ b = .obj C gs ∧ PySem.W.subIn K (.ref C) (.type "tuple") = some false ∧ pre [b, a] ∧ P (wb (out [b, a])) μ))
/-- o.m(..) -/
def dMetP (C : Addr) (m : Str) (pre : List D → Prop) (out : List D → D) (dvs : List V) (dx : DE) (da : DAr) : DE := fun ρ μ P R => dx ρ μ (fun x μ1 => ∃ gs, x = .d (.obj C gs) ∧ gs.lookup m = none ∧ da ρ μ1 (fun xs μ2 => Got (alls (xs ++ dws dvs)) fun ds => pre (.obj C gs :: ds) ∧ P (.d (out (.obj C gs :: ds))) μ2) R) R
/-! ### a constructor that fills fields -/
def initFS (C : Addr) (pre : List D → Prop) (flds : List D → List (Str × D)) : FS := fun xs μ P _ => ∃ ds, xs = .m 0 :: ds.map .d ∧ μ = [.ins C []] ∧ pre ds ∧ P wn [.ins C (flds ds)]
theorem pass_all1 {μ : Mu} {k : Nat} : ∀ {ds : List D}, PassAs μ [k] [] (ds.map .d) (ds.map .d)
  | [] => .nil
  | _ :: _ => .cons (.d _) pass_all1
def dNewP (C : Addr) (pre : List D → Prop) (flds : List D → List (Str × D)) (dvs : List V) (da : DAr) : DE := fun ρ μ P R => da ρ μ (fun xs μ1 => Got (alls (xs ++ dws dvs)) fun ds => pre ds ∧ P (.d (.obj C (flds ds))) μ1) R
end
section
variable {X : Cx} {Wx : WX} {k : Nat} {f g C : Addr} {ps : List Str} {dvs : List V} {x m : Str} {p pos apos : Pos} {a b e o : Expr} {es : List Expr} {ta tb : TE} {da db : DE} {tA : TA} {dA : DAr} {pre : List D → Prop} {out : List D → D} {outB : List D → Bool} {flds : List D → List (Str × D)}
theorem b_iS {tg : Expr} (h : BE X Wx e ta da) : BI X Wx tg e (iSeq X.K ta) (dIS da) := ⟨pi_seq h.pe, sim_iS h.sim⟩
theorem b_eqD (hr : Room k X.A) (ha : BE X Wx a ta da) (hb' : BE X Wx b tb db) (hk : behindInMarks .Eq b = false) : BE X Wx (.Compare a [.Eq] [b] pos) (tOp (rEqD X.K) ta tb) (dOp dEqD da db) := b_cmp (op_eqD hr.units) op2_eqD ha hb' hk
end
end DL

set_option Elab.async false
set_option linter.all false
set_option maxRecDepth 100000
set_option maxHeartbeats 4000000
/-! DL, part nineteen: the drawers of a law. -/
namespace DL
open PySem L2 Evl
/-- a drawer: what is left of a great cell, the seed, the count -/
structure DS where
  a : Int
  b : Int
  c : Int
def DS.l (s : DS) : List D := [.int s.a, .int s.b, .int s.c]
def DS.of : List D → Option DS
  | [.v (.int a), .v (.int b), .v (.int c)] => some ⟨a, b, c⟩
  | _ => none
structure DS.Ok (s : DS) : Prop where
  a0 : 0 ≤ s.a
  b0 : 0 ≤ s.b
  c0 : 0 ≤ s.c
def one_ (s : DS) : Int := (s.b * 48271 + (s.c + 1) * 69621 + 12345) % 2147483647
def two_ (s : DS) : Int := (one_ s * (one_ s / 3 + 40014) + (s.c + 1) * 7919) % 2147483563
def drawV (s : DS) (m : Int) : Int := if 1 < s.a then s.a % m else (two_ s / 11) % m
def drawS (s : DS) (m : Int) : DS := if 1 < s.a then ⟨s.a / m, s.b, s.c⟩ else ⟨s.a, s.b, s.c + 1⟩
theorem drawV_lt {s : DS} {m : Int} (hm : 1 ≤ m) : 0 ≤ drawV s m ∧ drawV s m < m := by
  unfold drawV
  split
  · exact ⟨Int.emod_nonneg _ (by omega), Int.emod_lt_of_pos _ (by omega)⟩
  · exact ⟨Int.emod_nonneg _ (by omega), Int.emod_lt_of_pos _ (by omega)⟩
/-- the drawer of a cell and a number -/
def drawer0 (c k : Int) : DS := if (10 : Int) ^ 18 ≤ c then ⟨c - 10 ^ 18, (c + 1013 * k + 7) % 2147483629, 0⟩ else ⟨0, (c + 1013 * k + 7) % 2147483629, 0⟩
/-- the drawer of a script and a number -/
def drawerOf (ns : List Int) (k : Int) : DS := drawer0 (if k < (ns.length : Int) then (((ns[k.toNat]?).getD 0).natAbs : Int) else 0) k
/-- a def that draws: the drawer first, then data; it answers a datum -/
def drFS (pre : DS → List D → Prop) (val : DS → List D → D) (nxt : DS → List D → DS) : FS := fun xs μ P _ => ∃ s ds, xs = .m 0 :: ds.map .d ∧ μ = [.lst s.l] ∧ pre s ds ∧ P (.d (val s ds)) [.lst (nxt s ds).l]
def mds (μ : Mu) (k : Nat) : Option DS := (mlist μ k).bind DS.of
theorem ds_of {l : List D} {s : DS} (h : DS.of l = some s) : l = s.l := by
  unfold DS.of at h
  split at h
  · cases h
    rfl
  · cases h
theorem mds_ok {μ : Mu} {k : Nat} {s : DS} (h : mds μ k = some s) : μ[k]? = some (.lst s.l) := by
  unfold mds at h
  cases q : mlist μ k with
  | none => rw [q] at h; cases h
  | some l =>
    rw [q] at h
    have := ds_of (show DS.of l = some s from h)
    rw [← this]
    exact mlist_ok q
def DrawI (pre : DS → List D → Prop) (val : DS → List D → D) (nxt : DS → List D → DS) (xs : List W) (μ : Mu) (P : PN) : Prop := ∃ k r ds s, xs = .m k :: r ∧ alls r = some ds ∧ mds μ k = some s ∧ pre s ds ∧ P (.d (val s ds)) (μ.set k (.lst (nxt s ds).l))
def dDraw (pre : DS → List D → Prop) (val : DS → List D → D) (nxt : DS → List D → DS) (dvs : List V) (da : DAr) : DE := fun ρ μ P R => da ρ μ (fun xs μ1 => DrawI pre val nxt (xs ++ dws dvs) μ1 P) R
theorem call_draw {pre : DS → List D → Prop} {val : DS → List D → D} {nxt : DS → List D → DS} {xs : List W} {μ : Mu} {P : PN} {R : PX} (h : DrawI pre val nxt xs μ P) : CallW (drFS pre val nxt) xs μ P R := by
  obtain ⟨k, r, ds, s, rfl, e1, e2, hp, p⟩ := h
  have hk : k < μ.length := (List.getElem?_eq_some_iff.mp (mds_ok e2)).1
  rw [alls_eq e1]
  refine ⟨[k], [], .m 0 :: ds.map .d, fun x ν => x = .d (val s ds) ∧ ν = [.lst (nxt s ds).l], fun _ _ _ => False, by simp, by simpa using hk, by simp, .cons (.m rfl) pass_all1, ⟨s, ds, rfl, ?_, hp, rfl, rfl⟩, fun x ν _ h => ?_, fun _ _ _ _ h => h.elim⟩
  · have : μ.getD k .dead = .lst s.l := by rw [List.getD_eq_getElem?_getD, mds_ok e2]; rfl
    simp only [List.map_cons, List.map_nil, this]
  · obtain ⟨rfl, rfl⟩ := h
    refine ⟨trivial, ?_⟩
    have e : merge μ [k] [.lst (nxt s ds).l] = μ.set k (.lst (nxt s ds).l) := by simp [merge]
    rw [e]
    exact p
/-- a def that draws and answers a new list -/
def drLS (pre : DS → List D → Prop) (val : DS → List D → List D) (nxt : DS → List D → DS) : FS := fun xs μ P _ => ∃ s ds, xs = .m 0 :: ds.map .d ∧ μ = [.lst s.l] ∧ pre s ds ∧ newLst (val s ds) [.lst (nxt s ds).l] P
section
variable {X : Cx} {Wx : WX} {k : Nat} {f g C : Addr} {ps : List Str} {dvs : List V} {x m : Str} {p pos apos : Pos} {a b e o : Expr} {es : List Expr} {ta tb : TE} {da db : DE} {tA : TA} {dA : DAr} {pre : DS → List D → Prop} {val : DS → List D → D} {nxt : DS → List D → DS} {preB : List D → Prop} {outB : List D → Bool}
theorem b_eqDT (hr : Room k X.A) (ha : BE X Wx a ta da) (hb' : BE X Wx b tb db) (hk : behindInMarks .Eq b = false) : BT X Wx (.Compare a [.Eq] [b] pos) (tTest (tOp (rEqD X.K) ta tb)) (dTest (dOp dEqD da db)) := b_cmpT (op_eqD hr.units) op2_eqD ha hb' hk
end
/-! ### _law_draw -/
def pDraw (s : DS) (ds : List D) : Prop := ∃ m : Int, ds = [.int m] ∧ s.Ok ∧ 1 ≤ m ∧ m < 2 ^ 400
def vDraw (s : DS) : List D → D
  | [.v (.int m)] => .int (drawV s m)
  | _ => .non
def nDraw (s : DS) : List D → DS
  | [.v (.int m)] => drawS s m
  | _ => s
theorem at_nat {α : Type} {xs : List α} {k : Int} {x : α} (h0 : 0 ≤ k) (h : xs[k.toNat]? = some x) : atI xs k = some x := by
  have hl := (List.getElem?_eq_some_iff.mp h).1
  unfold atI ixN
  rw [if_pos h0, if_pos (by omega)]
  exact h
/-- bounds by powers of 10 ** 20 -/
@[irreducible] def B20 (i : Nat) : Int := 100000000000000000000 ^ i
theorem WkR.refl : ∀ {ρ : Rho}, WkR ρ ρ
  | [] => .nil
  | _ :: _ => .keep WkR.refl
section
variable {d : Dn} {n : Nat} {N : Rho → Mu → Prop}
end
end DL

set_option Elab.async false
set_option linter.all false
set_option maxRecDepth 100000
set_option maxHeartbeats 4000000
/-! DL, part twenty: isinstance, told. -/
namespace DL
open PySem L2 Evl
/-- the name of a built-in type of what stands there -/
def tyN (μ : Mu) (x : W) : Option String := match tyW μ x with
  | some (.type n) => some n
  | _ => none
theorem w_isiB {K : PySem.W.Frag} {μ : Mu} {x : W} {a b : String} {r : Bool} {P : PN} {R : PX} (ht : tyW μ x = some (.type a)) (hk : kitB a b = some r) : dIsi K [x, .d (.v (.ty b))] μ P R = P (wb r) μ := by
  apply propext
  constructor
  · rintro ⟨x', c, u, t, b', e, k, e2, _, hk', p⟩
    cases e
    cases k
    rw [ht] at e2
    cases e2
    have : kitB a b = some b' := hk'
    rw [hk] at this
    cases this
    exact p
  · intro p
    exact ⟨x, .ty b, .type b, .type a, r, rfl, .ty b, ht, (fun C e => nomatch e), hk, p⟩
section
variable {K : PySem.W.Frag} {μ : Mu} {P : PN} {R : PX}
end
section
variable {ρ : Rho} {μ : Mu} {P : PN} {R : PX} {k : Nat} {lo hi : Option Int} {ds : List D} {i : Int}
/-! ### slices -/
def SlI (x : W) (lo hi : Option Int) (μ : Mu) (P : PN) : Prop := (∃ ds, lstOf μ x = some ds ∧ newLst (cutD ds lo hi) μ P) ∨ (∃ ds, x = .d (.tup ds) ∧ P (.d (.tup (cutD ds lo hi))) μ) ∨ (∃ z, x = ws z ∧ z.length ≤ sizeLine ∧ P (ws (cutS z lo hi)) μ)
end
end DL

set_option Elab.async false
set_option linter.all false
set_option maxRecDepth 100000
set_option maxHeartbeats 4000000
/-! DL, part twenty-one: defs that look at data, lent or not; dicts of ints, as lists. -/
namespace DL
open PySem L2 Evl
/-- what is seen through a name: a datum, a lent one, a list that changes -/
def seeW (μ : Mu) : W → Option D
  | .d a => some a
  | .b (.v _) => none
  | .b a => some a
  | .m k => (mlist μ k).map .lst
def sees (μ : Mu) : List W → Option (List D)
  | [] => some []
  | x :: r => (seeW μ x).bind fun a => (sees μ r).map (a :: ·)
/-- the numbers of the lists that change among the arguments -/
def lentOf : List W → List Nat
  | [] => []
  | .m k :: r => k :: lentOf r
  | _ :: r => lentOf r
/-- data in, lent or not, a datum out -/
def seeFS (pre : List D → Prop) (out : List D → D) : FS := fun xs μ P _ => ∃ as : List (Bool × D), xs = as.map (fun p => item p.1 p.2) ∧ pre (as.map Prod.snd) ∧ μ = [] ∧ P (.d (out (as.map Prod.snd))) []
def dSee (pre : List D → Prop) (out : List D → D) (dvs : List V) (da : DAr) : DE := fun ρ μ P R => da ρ μ (fun xs μ1 => Got (sees μ1 (xs ++ dws dvs)) fun ds => pre ds ∧ P (.d (out ds)) μ1) R
/-- a constructor that fills fields from what it sees -/
def initVFS (C : Addr) (pre : List D → Prop) (flds : List D → List (Str × D)) : FS := fun xs μ P _ => ∃ as : List (Bool × D), xs = .m 0 :: as.map (fun p => item p.1 p.2) ∧ μ = [.ins C []] ∧ pre (as.map Prod.snd) ∧ P wn [.ins C (flds (as.map Prod.snd))]
def dNewV (C : Addr) (pre : List D → Prop) (flds : List D → List (Str × D)) (dvs : List V) (da : DAr) : DE := fun ρ μ P R => da ρ μ (fun xs μ1 => Got (sees μ1 (xs ++ dws dvs)) fun ds => pre ds ∧ P (.d (.obj C (flds ds))) μ1) R
section
variable {K : PySem.W.Frag} {Wx : WX} {w : Wd}
end
section
variable {X : Cx} {Wx : WX} {k : Nat} {f C : Addr} {ps : List Str} {dvs : List V} {x : Str} {p pos : Pos} {e : Expr} {es : List Expr} {tA : TA} {dA : DAr} {pre : List D → Prop} {out : List D → D} {flds : List D → List (Str × D)}
end
/-! ### a dict that adds up -/
section
variable {κ τ : Type} [DecidableEq κ]
def accS (key : τ → κ) (wt : τ → Int) (s : List (κ × Int)) (t : τ) : List (κ × Int) := putA s (key t) ((valA s (key t)).getD 0 + wt t)
def accOf (key : τ → κ) (wt : τ → Int) (ts : List τ) : List (κ × Int) := ts.foldl (accS key wt) []
def sumAt (key : τ → κ) (wt : τ → Int) (ts : List τ) (k : κ) : Int := ((ts.filter fun t => decide (key t = k)).map wt).sum
end
section
variable {κ α : Type} [DecidableEq κ]
theorem any_key {k : κ} {s : List (κ × α)} : (s.any fun kv => decide (kv.1 = k)) = decide (k ∈ s.map (·.1)) := by
  induction s with
  | nil => simp
  | cons p r ih =>
    rw [List.any_cons, ih]
    by_cases h : p.1 = k
    · simp [h]
    · have h2 : ¬ k = p.1 := fun e => h e.symm
      simp [h, h2]
theorem valA_none {k : κ} {s : List (κ × α)} : valA s k = none ↔ k ∉ s.map (·.1) := by
  induction s with
  | nil => simp [valA]
  | cons p r ih =>
    unfold valA at ih ⊢
    rw [List.find?_cons]
    by_cases h : p.1 = k
    · simp [h]
    · have h2 : ¬ k = p.1 := fun e => h e.symm
      simp only [h, decide_false, ih, List.map_cons, List.mem_cons, h2, false_or]
theorem putA_keys {k : κ} {v : α} {s : List (κ × α)} : (putA s k v).map (·.1) = if k ∈ s.map (·.1) then s.map (·.1) else s.map (·.1) ++ [k] := by
  unfold putA
  rw [any_key]
  by_cases h : k ∈ s.map (·.1)
  · rw [if_pos h, if_pos (by simpa using h), List.map_map]
    refine List.map_congr_left fun p _ => ?_
    simp only [Function.comp]
    split
    · rename_i e
      rfl
    · rfl
  · rw [if_neg h, if_neg (by simpa using h), List.map_append]
    rfl
theorem valA_cons {p : κ × α} {r : List (κ × α)} {k : κ} : valA (p :: r) k = if p.1 = k then some p.2 else valA r k := by
  unfold valA
  rw [List.find?_cons]
  by_cases h : p.1 = k
  · simp [h]
  · simp [h]
theorem valA_repl {k j : κ} {v : α} : ∀ {s : List (κ × α)}, valA (s.map fun kv => if kv.1 = k then (kv.1, v) else kv) j = if j = k ∧ j ∈ s.map (·.1) then some v else valA s j
  | [] => by simp [valA]
  | p :: r => by
    have ih := @valA_repl k j v r
    rw [List.map_cons, valA_cons, valA_cons, ih]
    by_cases h : p.1 = k
    · rw [if_pos h]
      by_cases h2 : p.1 = j
      · have h3 : j = k := h2.symm.trans h
        rw [if_pos h2, if_pos ⟨h3, by rw [List.map_cons, h2]; exact List.mem_cons_self⟩]
      · have h3 : ¬ j = k := fun e => h2 (h.trans e.symm)
        rw [if_neg h2, if_neg h2, if_neg (fun z => h3 z.1), if_neg (fun z => h3 z.1)]
    · rw [if_neg h]
      by_cases h2 : p.1 = j
      · have h3 : ¬ j = k := fun e => h (h2.trans e)
        rw [if_pos h2, if_pos h2, if_neg (fun z => h3 z.1)]
      · rw [if_neg h2, if_neg h2]
        by_cases h3 : j = k
        · have e : (j ∈ List.map (·.1) (p :: r)) ↔ j ∈ List.map (·.1) r := by
            rw [List.map_cons, List.mem_cons]
            exact ⟨fun z => z.elim (fun z => absurd z.symm h2) id, .inr⟩
          by_cases h4 : j ∈ List.map (·.1) r
          · rw [if_pos ⟨h3, h4⟩, if_pos ⟨h3, e.mpr h4⟩]
          · rw [if_neg (fun z => h4 z.2), if_neg (fun z => h4 (e.mp z.2))]
        · rw [if_neg (fun z => h3 z.1), if_neg (fun z => h3 z.1)]
theorem valA_put {k j : κ} {v : α} {s : List (κ × α)} : valA (putA s k v) j = if j = k then some v else valA s j := by
  unfold putA
  rw [any_key]
  by_cases h : k ∈ s.map (·.1)
  · rw [if_pos (by simpa using h), valA_repl]
    by_cases e : j = k
    · subst e
      rw [if_pos ⟨rfl, h⟩, if_pos rfl]
    · rw [if_neg (fun z => e z.1), if_neg e]
  · rw [if_neg (by simpa using h)]
    unfold valA
    rw [List.find?_append]
    by_cases e : j = k
    · subst e
      rw [if_pos rfl]
      have := (valA_none (k := j) (s := s)).mpr h
      unfold valA at this
      rw [Option.map_eq_none_iff] at this
      rw [this]
      simp
    · rw [if_neg e]
      have : ¬ k = j := fun z => e z.symm
      simp [this]
theorem putA_len {k : κ} {v : α} {s : List (κ × α)} : (putA s k v).length ≤ s.length + 1 := by
  unfold putA
  split
  · simp
  · simp
end
section
variable {κ τ : Type} [DecidableEq κ] {key : τ → κ} {wt : τ → Int}
theorem sumAt_nil {k : κ} : sumAt key wt [] k = 0 := rfl
theorem sumAt_append {ts us : List τ} {k : κ} : sumAt key wt (ts ++ us) k = sumAt key wt ts k + sumAt key wt us k := by
  unfold sumAt
  rw [List.filter_append, List.map_append, List.sum_append]
theorem sumAt_cons {t : τ} {ts : List τ} {k : κ} : sumAt key wt (t :: ts) k = (if key t = k then wt t else 0) + sumAt key wt ts k := by
  unfold sumAt
  rw [List.filter_cons]
  by_cases h : key t = k
  · simp [h]
  · simp [h]
theorem sumAt_none {ts : List τ} {k : κ} (h : ∀ t ∈ ts, key t ≠ k) : sumAt key wt ts k = 0 := by
  unfold sumAt
  rw [List.filter_eq_nil_iff.mpr (fun t ht => by simpa using h t ht)]
  rfl
structure AccOk (key : τ → κ) (wt : τ → Int) (ts : List τ) (s : List (κ × Int)) : Prop where
  nd : (s.map (·.1)).Nodup
  keys : ∀ k, k ∈ s.map (·.1) ↔ ∃ t ∈ ts, key t = k
  val : ∀ k, k ∈ s.map (·.1) → valA s k = some (sumAt key wt ts k)
  len : s.length ≤ ts.length
theorem AccOk.nil : AccOk key wt [] [] := ⟨List.nodup_nil, fun k => by simp, fun k h => by simp at h, Nat.le_refl _⟩
theorem AccOk.step {ts : List τ} {s : List (κ × Int)} (h : AccOk key wt ts s) (t : τ) : AccOk key wt (ts ++ [t]) (accS key wt s t) := by
  have hv : (valA s (key t)).getD 0 = sumAt key wt ts (key t) := by
    by_cases q : key t ∈ s.map (·.1)
    · rw [h.val _ q]
      rfl
    · rw [valA_none.mpr q]
      show 0 = _
      refine (sumAt_none fun u hu e => q ?_).symm
      exact (h.keys _).mpr ⟨u, hu, e⟩
  have hk : ∀ k, k ∈ (accS key wt s t).map (·.1) ↔ k ∈ s.map (·.1) ∨ k = key t := fun k => by
    unfold accS
    rw [putA_keys]
    split
    · rename_i q
      exact ⟨.inl, fun z => z.elim id (fun e => by rw [e]; exact q)⟩
    · rw [List.mem_append, List.mem_singleton]
  refine ⟨?_, fun k => ?_, fun k hk' => ?_, ?_⟩
  · unfold accS
    rw [putA_keys]
    split
    · exact h.nd
    · rename_i q
      rw [List.nodup_append]
      refine ⟨h.nd, by simp, fun a ha b hb e => q ?_⟩
      rw [List.mem_singleton] at hb
      rw [← hb, ← e]
      exact ha
  · rw [hk, h.keys]
    constructor
    · rintro (⟨u, hu, e⟩ | e)
      · exact ⟨u, List.mem_append_left _ hu, e⟩
      · exact ⟨t, by simp, e.symm⟩
    · rintro ⟨u, hu, e⟩
      rcases List.mem_append.mp hu with hu | hu
      · exact .inl ⟨u, hu, e⟩
      · rw [List.mem_singleton] at hu
        exact .inr (by rw [← e, hu])
  · unfold accS
    rw [valA_put, sumAt_append, sumAt_cons, sumAt_nil]
    by_cases e : k = key t
    · subst e
      rw [if_pos rfl, if_pos rfl, hv]
      congr 1
      omega
    · rw [if_neg e, if_neg (fun z => e z.symm)]
      rcases (hk k).mp hk' with q | q
      · rw [h.val k q]
        congr 1
        omega
      · exact absurd q e
  · unfold accS
    have := putA_len (s := s) (k := key t) (v := (valA s (key t)).getD 0 + wt t)
    have := h.len
    rw [List.length_append]
    simp
    omega
theorem AccOk.of : ∀ (us ts : List τ) (s : List (κ × Int)), AccOk key wt ts s → AccOk key wt (ts ++ us) (us.foldl (accS key wt) s)
  | [], ts, s, h => by simpa using h
  | u :: us, ts, s, h => by
    have := AccOk.of us (ts ++ [u]) _ (h.step u)
    rw [List.append_assoc] at this
    exact this
end
/-! ### lists in strict order are told by their members -/
theorem sorted_uniq {α : Type} {lt : α → α → Prop} (irr : ∀ a, ¬ lt a a) (tr : ∀ a b c, lt a b → lt b c → lt a c) : ∀ {xs ys : List α}, xs.Pairwise lt → ys.Pairwise lt → (∀ a, a ∈ xs ↔ a ∈ ys) → xs = ys
  | [], [], _, _, _ => rfl
  | [], y :: ys, _, _, h => absurd ((h y).mpr List.mem_cons_self) (by simp)
  | x :: xs, [], _, _, h => absurd ((h x).mp List.mem_cons_self) (by simp)
  | x :: xs, y :: ys, hx, hy, h => by
    rw [List.pairwise_cons] at hx hy
    have e : x = y := by
      rcases List.mem_cons.mp ((h x).mp List.mem_cons_self) with e | e
      · exact e
      · rcases List.mem_cons.mp ((h y).mpr List.mem_cons_self) with e2 | e2
        · exact e2.symm
        · exact absurd (tr _ _ _ (hx.1 y e2) (hy.1 x e)) (irr x)
    subst e
    congr 1
    refine sorted_uniq irr tr hx.2 hy.2 fun a => ?_
    constructor
    · intro ha
      rcases List.mem_cons.mp ((h a).mp (List.mem_cons_of_mem _ ha)) with e | e
      · subst e
        exact absurd (hx.1 a ha) (irr a)
      · exact e
    · intro ha
      rcases List.mem_cons.mp ((h a).mpr (List.mem_cons_of_mem _ ha)) with e | e
      · subst e
        exact absurd (hy.1 a ha) (irr a)
      · exact e
end DL

set_option Elab.async false
set_option linter.all false
set_option maxRecDepth 100000
set_option maxHeartbeats 4000000
/-! DL, part twenty-two: dicts and sorts, read. -/
namespace DL
open PySem L2 Evl
section
variable {ρ : Rho} {μ : Mu} {P : PN} {R : PX} {d : Dn} {k j : Nat}
/-! dicts of ints by pairs and by ints -/
def kvT (s : List ((Int × Int) × Int)) : List (List Key × D) := s.map fun p => (pk p.1, D.int p.2)
def kvK (s : List (Int × Int)) : List (Key × D) := s.map fun p => (.inl p.1, D.int p.2)
end
section
variable {ρ : Rho} {μ : Mu} {P : PN}
end
end DL
namespace DL
open PySem L2 Evl
section
variable {K : PySem.W.Frag} {ρ : Rho} {μ : Mu} {P : PN} {R : PX} {d : Dn} {k : Nat} {f : Str} {C : Addr} {gs : List (Str × D)}
/-! fields -/
def FldI (K : PySem.W.Frag) (f : Str) (x : W) (μ : Mu) (P : PN) : Prop := ∃ C gs l d, insOf μ x = some (C, gs, l) ∧ FldOk K f C ∧ gs.lookup f = some d ∧ P (item l d) μ
def mins (μ : Mu) (k : Nat) : Option (Addr × List (Str × D)) := match μ[k]? with
  | some (.ins C gs) => some (C, gs)
  | _ => none
def FldS (K : PySem.W.Frag) (f : Str) (y x : W) (μ : Mu) (N : Mu → Prop) : Prop := ∃ k C gs z, y = .d z ∧ x = .m k ∧ μ[k]? = some (.ins C gs) ∧ FldOk K f C ∧ gs.length < 1000 ∧ N (μ.set k (.ins C (putD f z gs)))
end
end DL
namespace DL
end DL
namespace DL
open PySem
end DL
namespace DL
open PySem
end DL

set_option Elab.async false
set_option linter.all false
set_option maxRecDepth 100000
set_option maxHeartbeats 4000000
/-! DL, part twenty-three: plain data, equality of data, classes of the program's own. -/
namespace DL
open PySem L2 Evl
/-- plain data of a depth -/
def pl : Nat → D → Prop
  | _, .v .non => True
  | _, .v (.bl _) => True
  | _, .v (.int _) => True
  | _, .v (.str s) => PyData.strOk s = true
  | n + 1, .tup ds => ds.length ≤ 1000000 ∧ ∀ d ∈ ds, pl n d
  | n + 1, .lst ds => ds.length ≤ 1000000 ∧ ∀ d ∈ ds, pl n d
  | _, _ => False
/-- .. without truth values -/
def pn : Nat → D → Prop
  | _, .v .non => True
  | _, .v (.int _) => True
  | _, .v (.str s) => PyData.strOk s = true
  | n + 1, .tup ds => ds.length ≤ 1000000 ∧ ∀ d ∈ ds, pn n d
  | n + 1, .lst ds => ds.length ≤ 1000000 ∧ ∀ d ∈ ds, pn n d
  | _, _ => False
theorem pl_int {n : Nat} {i : Int} : pl n (.v (.int i)) := by cases n <;> simp [pl]
theorem pn_int {n : Nat} {i : Int} : pn n (.v (.int i)) := by cases n <;> simp [pn]
theorem pn_pl : ∀ {n : Nat} {d : D}, pn n d → pl n d
  | n, .v v, h => by
    cases v with
    | non => cases n <;> simp [pl]
    | int i => exact pl_int
    | str s => cases n <;> simpa [pl, pn] using h
    | bl b => cases n <;> simp [pn] at h
    | byt b => cases n <;> simp [pn] at h
    | flt b => cases n <;> simp [pn] at h
    | ref b => cases n <;> simp [pn] at h
    | ty b => cases n <;> simp [pn] at h
  | 0, .tup _, h => by simp [pn] at h
  | 0, .lst _, h => by simp [pn] at h
  | n + 1, .tup ds, h => by
    simp only [pl, pn] at h ⊢
    exact ⟨h.1, fun d hd => pn_pl (h.2 d hd)⟩
  | n + 1, .lst ds, h => by
    simp only [pl, pn] at h ⊢
    exact ⟨h.1, fun d hd => pn_pl (h.2 d hd)⟩
  | n, .scr _, h => by cases n <;> simp [pn] at h
  | n, .obj _ _, h => by cases n <;> simp [pn] at h
  | n, .dT _, h => by cases n <;> simp [pn] at h
  | n, .dK _, h => by cases n <;> simp [pn] at h
  | n, .xc _ _ _, h => by cases n <;> simp [pn] at h
theorem pyDs_pl {n : Nat} (ih : ∀ d, pl n d → ∃ p, pyD d = some p ∧ p.canLay0 = true ∧ p.depth ≤ n) : ∀ {ds : List D}, (∀ d ∈ ds, pl n d) → ∃ ps, pyDs ds = some ps ∧ PyData.canLayAll0 ps = true ∧ PyData.depthAll ps ≤ n
  | [], _ => ⟨[], by simp [pyDs], by simp [PyData.canLayAll0], by simp [PyData.depthAll]⟩
  | d :: r, h => by
    obtain ⟨p, h1, h2, h3⟩ := ih d (h d List.mem_cons_self)
    obtain ⟨ps, k1, k2, k3⟩ := pyDs_pl ih fun e he => h e (List.mem_cons_of_mem _ he)
    refine ⟨p :: ps, by rw [pyDs, h1, k1]; rfl, by rw [PyData.canLayAll0, h2, k2]; rfl, ?_⟩
    rw [PyData.depthAll]
    omega
theorem pyD_pl : ∀ {n : Nat} {d : D}, pl n d → ∃ p, pyD d = some p ∧ p.canLay0 = true ∧ p.depth ≤ n
  | n, .v v, h => by
    cases v with
    | non => exact ⟨_, by rw [pyD], by simp [PyData.canLay0], by simp [PyData.depth]⟩
    | bl b => exact ⟨_, by rw [pyD], by simp [PyData.canLay0], by simp [PyData.depth]⟩
    | int i => exact ⟨_, by rw [pyD], by simp [PyData.canLay0], by simp [PyData.depth]⟩
    | str s => exact ⟨_, by rw [pyD], by rw [PyData.canLay0]; cases n <;> simpa [pl] using h, by simp [PyData.depth]⟩
    | byt b => cases n <;> simp [pl] at h
    | flt b => cases n <;> simp [pl] at h
    | ref b => cases n <;> simp [pl] at h
    | ty b => cases n <;> simp [pl] at h
  | 0, .tup _, h => by simp [pl] at h
  | 0, .lst _, h => by simp [pl] at h
  | n + 1, .tup ds, h => by
    simp only [pl] at h
    obtain ⟨ps, k1, k2, k3⟩ := pyDs_pl (fun d hd => pyD_pl (n := n) hd) h.2
    exact ⟨.tuple ps, by rw [pyD, k1]; rfl, by rw [PyData.canLay0]; exact k2, by rw [PyData.depth]; omega⟩
  | n + 1, .lst ds, h => by
    simp only [pl] at h
    obtain ⟨ps, k1, k2, k3⟩ := pyDs_pl (fun d hd => pyD_pl (n := n) hd) h.2
    exact ⟨.list ps, by rw [pyD, k1]; rfl, by rw [PyData.canLay0]; exact k2, by rw [PyData.depth]; omega⟩
  | n, .scr _, h => by cases n <;> simp [pl] at h
  | n, .obj _ _, h => by cases n <;> simp [pl] at h
  | n, .dT _, h => by cases n <;> simp [pl] at h
  | n, .dK _, h => by cases n <;> simp [pl] at h
  | n, .xc _ _ _, h => by cases n <;> simp [pl] at h
theorem shaped_pl {n : Nat} {p : PyData} (h1 : p.canLay0 = true) (h2 : p.depth ≤ n) (hn : n ≤ 64) : SeqAt.shaped p = true := by
  unfold SeqAt.shaped
  rw [h1, decide_eq_true (by omega)]
  rfl
theorem eqvAll_pn {n m : Nat} (ih : ∀ a b p q, pn n a → pn m b → pyD a = some p → pyD b = some q → (PyData.eqv p q = true ↔ a = b)) : ∀ {as bs : List D} {ps qs : List PyData}, (∀ d ∈ as, pn n d) → (∀ d ∈ bs, pn m d) → pyDs as = some ps → pyDs bs = some qs → (PyData.eqvAll ps qs = true ↔ as = bs)
  | [], [], ps, qs, _, _, e1, e2 => by
    simp only [pyDs, Option.some.injEq] at e1 e2
    subst e1 e2
    simp [PyData.eqvAll]
  | [], b :: bs, ps, qs, _, hb, e1, e2 => by
    obtain ⟨y, y1, _⟩ := pyD_pl (pn_pl (hb b List.mem_cons_self))
    obtain ⟨ys, z1, _⟩ := pyDs_pl (fun d hd => pyD_pl (n := m) hd) (ds := bs) fun e he => pn_pl (hb e (List.mem_cons_of_mem _ he))
    simp only [pyDs, y1, z1, Option.some.injEq, Option.bind_some, Option.map_some] at e1 e2
    subst e1 e2
    simp [PyData.eqvAll]
  | a :: as, [], ps, qs, ha, _, e1, e2 => by
    obtain ⟨y, y1, _⟩ := pyD_pl (pn_pl (ha a List.mem_cons_self))
    obtain ⟨ys, z1, _⟩ := pyDs_pl (fun d hd => pyD_pl (n := n) hd) (ds := as) fun e he => pn_pl (ha e (List.mem_cons_of_mem _ he))
    simp only [pyDs, y1, z1, Option.some.injEq, Option.bind_some, Option.map_some] at e1 e2
    subst e1 e2
    simp [PyData.eqvAll]
  | a :: as, b :: bs, ps, qs, ha, hb, e1, e2 => by
    obtain ⟨x, x1, _⟩ := pyD_pl (pn_pl (ha a List.mem_cons_self))
    obtain ⟨xs, w1, _⟩ := pyDs_pl (fun d hd => pyD_pl (n := n) hd) (ds := as) fun e he => pn_pl (ha e (List.mem_cons_of_mem _ he))
    obtain ⟨y, y1, _⟩ := pyD_pl (pn_pl (hb b List.mem_cons_self))
    obtain ⟨ys, z1, _⟩ := pyDs_pl (fun d hd => pyD_pl (n := m) hd) (ds := bs) fun e he => pn_pl (hb e (List.mem_cons_of_mem _ he))
    rw [pyDs, x1, w1] at e1
    rw [pyDs, y1, z1] at e2
    cases e1
    cases e2
    rw [PyData.eqvAll, Bool.and_eq_true, ih a b x y (ha a List.mem_cons_self) (hb b List.mem_cons_self) x1 y1, eqvAll_pn ih (fun e he => ha e (List.mem_cons_of_mem _ he)) (fun e he => hb e (List.mem_cons_of_mem _ he)) w1 z1, List.cons.injEq]
theorem eqv_pn : ∀ {n m : Nat} {a b : D} {p q : PyData}, pn n a → pn m b → pyD a = some p → pyD b = some q → (PyData.eqv p q = true ↔ a = b)
  | n, m, a, b, p, q, ha, hb, e1, e2 => by
    have out : ∀ {k : Nat} {d : D} {r : PyData}, pn k d → pyD d = some r → (d = .v .non ∧ r = .none) ∨ (∃ i, d = .v (.int i) ∧ r = .int i) ∨ (∃ s, d = .v (.str s) ∧ r = .str s) ∨ (∃ ds rs j, k = j + 1 ∧ d = .tup ds ∧ (∀ e ∈ ds, pn j e) ∧ pyDs ds = some rs ∧ r = .tuple rs) ∨ ∃ ds rs j, k = j + 1 ∧ d = .lst ds ∧ (∀ e ∈ ds, pn j e) ∧ pyDs ds = some rs ∧ r = .list rs := by
      intro k d r h e
      cases d with
      | v v =>
        cases v with
        | non => rw [pyD] at e; cases e; exact .inl ⟨rfl, rfl⟩
        | int i => rw [pyD] at e; cases e; exact .inr (.inl ⟨i, rfl, rfl⟩)
        | str i => rw [pyD] at e; cases e; exact .inr (.inr (.inl ⟨i, rfl, rfl⟩))
        | bl b => cases k <;> simp [pn] at h
        | byt b => cases k <;> simp [pn] at h
        | flt b => cases k <;> simp [pn] at h
        | ref b => cases k <;> simp [pn] at h
        | ty b => cases k <;> simp [pn] at h
      | tup ds =>
        cases k with
        | zero => simp [pn] at h
        | succ j =>
          simp only [pn] at h
          rw [pyD] at e
          cases q : pyDs ds with
          | none => rw [q] at e; cases e
          | some rs => rw [q] at e; cases e; exact .inr (.inr (.inr (.inl ⟨ds, rs, j, rfl, rfl, h.2, q, rfl⟩)))
      | lst ds =>
        cases k with
        | zero => simp [pn] at h
        | succ j =>
          simp only [pn] at h
          rw [pyD] at e
          cases q : pyDs ds with
          | none => rw [q] at e; cases e
          | some rs => rw [q] at e; cases e; exact .inr (.inr (.inr (.inr ⟨ds, rs, j, rfl, rfl, h.2, q, rfl⟩)))
      | scr _ => cases k <;> simp [pn] at h
      | obj _ _ => cases k <;> simp [pn] at h
      | dT _ => cases k <;> simp [pn] at h
      | dK _ => cases k <;> simp [pn] at h
      | xc _ _ _ => cases k <;> simp [pn] at h
    rcases out ha e1 with ⟨rfl, rfl⟩ | ⟨i, rfl, rfl⟩ | ⟨s, rfl, rfl⟩ | ⟨ds, rs, j, hj, rfl, h1, h2, rfl⟩ | ⟨ds, rs, j, hj, rfl, h1, h2, rfl⟩ <;>
    rcases out hb e2 with ⟨rfl, rfl⟩ | ⟨i', rfl, rfl⟩ | ⟨s', rfl, rfl⟩ | ⟨ds', rs', j', hj', rfl, h1', h2', rfl⟩ | ⟨ds', rs', j', hj', rfl, h1', h2', rfl⟩ <;>
    first
    | (simp [PyData.eqv]; done)
    | (rw [PyData.eqv]; subst hj hj'; rw [eqvAll_pn (fun a b p q => eqv_pn) h1 h1' h2 h2']; simp)
  termination_by n => n
/-- equality of plain data -/
noncomputable def eqB (a b : D) : Bool := @decide (a = b) (Classical.propDecidable _)
theorem eqB_iff {a b : D} : eqB a b = true ↔ a = b := by
  unfold eqB
  simp
theorem eqB_self {a : D} : eqB a a = true := eqB_iff.mpr rfl
section
variable {K : PySem.W.Frag} {μ : Mu} {P : PN} {R : PX}
end
/-! ### a class of the program's own -/
structure OwnC (K : PySem.W.Frag) (C : Addr) : Prop where
  sf : PySem.W.selfFirst K C = true
  si : PySem.W.subIn K (.type "int") (.ref C) = some false
  s2 : PySem.W.subIn K (.ref C) (.type "int") = some false
  st : PySem.W.subIn K (.ref C) (.type "tuple") = some false
  nf : PySem.W.notFirst K C (.ref C) = true
  nt : PySem.W.notFirst K C (.type "tuple") = true
  ha : PySem.W.findIn K (.ref C) "__class__" = some (some (.builtin "object.__class__"))
  hn : PySem.W.specialIn K (.builtin "object.__class__") "__get__" = some (some (.builtin "getset_descriptor.__get__"))
  htk : PySem.W.takesIn K (.builtin "object.__class__") = some true
  hm : PySem.W.mroIn K C (.type "object") = some true
  kt : PySem.W.kitOne K (.type "tuple") (.ref C) = some false
def ownB (K : PySem.W.Frag) (C : Addr) : Bool := PySem.W.selfFirst K C && (decide (PySem.W.subIn K (.type "int") (.ref C) = some false) && (decide (PySem.W.subIn K (.ref C) (.type "int") = some false) && (decide (PySem.W.subIn K (.ref C) (.type "tuple") = some false) && (PySem.W.notFirst K C (.ref C) && (PySem.W.notFirst K C (.type "tuple") &&
  (He.eqO (PySem.W.findIn K (.ref C) "__class__") (some (some (.builtin "object.__class__"))) && (He.eqO (PySem.W.specialIn K (.builtin "object.__class__") "__get__") (some (some (.builtin "getset_descriptor.__get__"))) && (decide (PySem.W.takesIn K (.builtin "object.__class__") = some true) && (decide (PySem.W.mroIn K C (.type "object") = some true) && decide (PySem.W.kitOne K (.type "tuple") (.ref C) = some false))))))))))
section
variable {K : PySem.W.Frag} {C : Addr} {μ : Mu} {P : PN} {R : PX}
end
end DL
namespace DL
open PySem L2 Evl
/-! ### a field of an instance of a class that is known -/
def FldC (C : Addr) (f : Str) (x : W) (μ : Mu) (P : PN) : Prop := ∃ gs l d, insOf μ x = some (C, gs, l) ∧ gs.lookup f = some d ∧ P (item l d) μ
def dFldC (C : Addr) (f : Str) (dx : DE) : DE := fun ρ μ P R => dx ρ μ (fun x μ1 => FldC C f x μ1 P) R
def FldSC (C : Addr) (f : Str) (y x : W) (μ : Mu) (N : Mu → Prop) : Prop := ∃ k gs z, y = .d z ∧ x = .m k ∧ μ[k]? = some (.ins C gs) ∧ gs.length < 1000 ∧ N (μ.set k (.ins C (putD f z gs)))
def dFldSC (C : Addr) (f : Str) (dx de : DE) : DSt := fun d ρ μ => de ρ μ (fun y μ1 => dx ρ μ1 (fun x μ2 => FldSC C f y x μ2 fun μ3 => d.nx ρ μ3) (d.x ρ)) (d.x ρ)
section
variable {K : PySem.W.Frag} {Wx : WX} {w w1 w2 w' : Wd} {σ : L2.St} {ρ : Rho} {μ : Mu} {C : Addr} {f : Str} {P : PN} {R : PX} {d : Dn} {gs : List (Str × D)} {k : Nat}
theorem sim_fldC (fo : FldOk K f C) {te : TE} {de : DE} (h : Sim K Wx te de) : Sim K Wx (tFld K te f) (dFldC C f de) := fun {w σ ρ μ P R} ok st q {Q} qn qx =>
  h ok st q (fun w1 μ1 x v s1 ok1 ax ⟨gs, l, d, e, hl, p⟩ => by
    obtain ⟨a, dx, us, rfl, h1, h2⟩ := ins_ok ok1 ax e
    obtain ⟨u, e1, au⟩ := h2.look hl
    exact ⟨a, C, dx, us, u, rfl, h1, fo.cl, fo.no, e1, (qn.step s1).now ok1 (item_at au) p⟩) qx
theorem sim_fldSC (fo : FldOk K f C) {to te : TE} {dx de : DE} (ho : Sim K Wx to dx) (h : Sim K Wx te de) : SimS K Wx (sFld K to te f) (dFldSC C f dx de) := fun {w σ ρ μ d De} ok st q e => by
  refine sim_fldS (dx := fun ρ μ A R => ∃ B, dx ρ μ B R ∧ ∀ x μ1, B x μ1 → A x μ1) (de := fun ρ μ A R => ∃ B, de ρ μ B R ∧ ∀ x μ1, B x μ1 → A x μ1) (fun {w σ ρ μ A R'} ok st q {Q} qa qx => ?_) (fun {w σ ρ μ A R'} ok st q {Q} qa qx => ?_) ok st (d := d) ⟨_, q, fun y μ1 h1 => ⟨_, h1, fun x μ2 h2 => ?_⟩⟩ e
  · obtain ⟨B, hB, k⟩ := q
    exact ho ok st hB (fun w' μ' x v s ok' ax pp => qa w' μ' x v s ok' ax (k _ _ pp)) qx
  · obtain ⟨B, hB, k⟩ := q
    exact h ok st hB (fun w' μ' x v s ok' ax pp => qa w' μ' x v s ok' ax (k _ _ pp)) qx
  · obtain ⟨k, gs, z, h1, h3, h4, h5, h6⟩ := h2
    exact ⟨k, C, gs, z, h1, h3, h4, fo, h5, h6⟩
def minsC (C : Addr) (μ : Mu) (k : Nat) : Option (List (Str × D)) := match μ[k]? with
  | some (.ins C' gs) => if C' = C then some gs else none
  | _ => none
end
section
variable {X : Cx} {Wx : WX} {C : Addr} {f : Str} {e o : Expr} {te to : TE} {de dx : DE} {pos : Pos}
theorem b_fldC {K : PySem.W.Frag} (fo : FldOk K f C) (he : BE X Wx e te de) (hK : K = X.K := by rfl) (hb : attributeBase e f X.env (eval e X.env) = eval e X.env := by rfl) : BE X Wx (.Attribute e f pos) (tFld K te f) (dFldC C f de) := by subst hK; exact ⟨pe_fld he.pe hb, sim_fldC fo he.sim⟩
theorem b_fldSC {pos' : Pos} (fo : FldOk X.K f C) (ho : BE X Wx o to dx) (h : BE X Wx e te de) (hs : swapsWith e (some (.Attribute o f pos')) pos.line X.env = pure false := by rfl) : BS X Wx (.Assign [.Attribute o f pos'] e pos) (sFld X.K to te f) (dFldSC C f dx de) := ⟨ps_fld ho.pe h.pe hs, sim_fldSC fo ho.sim h.sim⟩
end
end DL
namespace DL
open PySem L2 Evl
section
variable {K : PySem.W.Frag} {ρ : Rho} {μ : Mu} {C : Addr} {P : PN} {R : PX} {pre : List D → Prop} {out : List D → D} {outB : List D → Bool} {da db : DE}
end
end DL
namespace DL
open PySem L2 Evl
end DL
namespace DL
open PySem L2 Evl
theorem item_v {l : Bool} {v : V} : item l (.v v) = .d (.v v) := by cases l <;> rfl
/-- no promise at all -/
theorem ok_none {P : Program} {w : World} {K : PySem.W.Frag} {mg : Str → Option Value} {base : Heap} {k : Nat} {f : Addr} {ps : List Str} {fs : FS} {x qual : Str} {params : Arguments} {body : List Stmt} {scope : Scope} {kws : List (Str × V)} {fd : FuncData} (F : FunD K x qual params body scope [] kws f fd)
    (hb : ∀ (kV doc pm : Value) (an : Option Addr) (cdv ct : Value) (us : List Value), us.length = ps.length → bindArgs (PySem.W.fnOf x qual params body scope .none kV doc pm an cdv ct) ⟨us, []⟩ = pure (ps.zip us))
    (h : ∀ xs μ P R, ¬ fs xs μ P R) : Ok P w K mg base k f ps [] fs :=
  ⟨fd, [], ⟨fun vs H Q E q => by
    obtain ⟨w, μ, xs, P, R, _, _, _, q, _⟩ := q
    exact absurd q (h _ _ _ _), fun A outer s H args us vs Q E hr he hb hv q => by
    obtain ⟨w, μ, xs, P, R, _, _, _, q, _⟩ := q
    exact absurd q (h _ _ _ _)⟩, F.bindsN hb, .nil, F.kp⟩
end DL
namespace DL
theorem at_get {α : Type} {i : Nat} {ds : List α} {x : α} (h : ds[i]? = some x) : L2.atI ds (i : Int) = some x := at_nat (by omega) (by simpa using h)
end DL
namespace DL
open PySem L2 Evl
/-! a body cut in two: what stands behind the first statements -/
section
variable {d : Dn} {ρ : Rho} {μ : Mu}
end
end DL
namespace DL
open PySem L2 Evl
theorem range_inv {σ : Type} {stp : σ → Nat → σ} {J : Nat → σ → Prop} : ∀ {n : Nat} {s0 : σ}, J 0 s0 → (∀ i s, i < n → J i s → J (i + 1) (stp s i)) → J n ((List.range n).foldl stp s0)
  | 0, _, h, _ => h
  | n + 1, s0, h, hs => by
    rw [List.range_succ, List.foldl_append]
    exact hs n _ (by omega) (range_inv h fun i s hi => hs i s (by omega))
section
variable {d : Dn} {ρ : Rho} {μ : Mu}
end
end DL
namespace DL
open PySem L2 Evl
section
variable {ρ : Rho} {μ : Mu} {P : PN}
end
end DL
namespace DL
open PySem L2 Evl
/-! ### within a comprehension: the written part is named -/
section
variable {X : Cx} {Wx : WX} {K : PySem.W.Frag} {e a b : Expr} {te ta tb : TE} {de da db : DE} {pos : Pos}
theorem b_addk (ha : BE X Wx a ta da) (hb : BE X Wx b tb db) (hK : K = X.K := by rfl) : BE X Wx (.BinOp a .Add b pos) (tOp (rAddA K) ta tb) (dOp dAdd da db) := by subst hK; exact b_add ha hb
theorem b_ixk (ha : BE X Wx a ta da) (hb : BE X Wx b tb db) (hs : PlainIx b := by intro _ _; rfl) (hK : K = X.K := by rfl) : BE X Wx (.Subscript a b pos) (tOp (rIx K) ta tb) (dOp dIx da db) := by subst hK; exact b_ix ha hb hs
end
end DL
namespace DL
open PySem L2 Evl
section
variable {ρ ρ' : Rho} {μ μ' : Mu} {P : PN} {R : PX} {dg dg1 : DG} {dt dt1 : DTe} {di di1 : DI} {de : DE} {vs vs1 : List Nat} {xs xs' : List W}
/-- stars -/
def StarI (fs : FS) (xs : List W) (μ : Mu) (P : PN) (R : PX) : Prop := small xs.length ∧ Data xs (fun ds => CallW fs [.d (.tup ds)] μ P R) (fun ds => CallW fs [.b (.tup ds)] μ P R)
end
end DL
namespace DL
open PySem L2 Evl
/-! ### defs that draw and answer a new list -/
def DrawL (pre : DS → List D → Prop) (val : DS → List D → List D) (nxt : DS → List D → DS) (xs : List W) (μ : Mu) (P : PN) : Prop := ∃ k r ds s, xs = .m k :: r ∧ alls r = some ds ∧ mds μ k = some s ∧ pre s ds ∧ newLst (val s ds) (μ.set k (.lst (nxt s ds).l)) P
section
variable {pre : DS → List D → Prop} {val : DS → List D → List D} {nxt : DS → List D → DS} {xs xs' : List W} {μ μ' : Mu} {P : PN} {R : PX} {ρ : Rho}
def dDrawL (pre : DS → List D → Prop) (val : DS → List D → List D) (nxt : DS → List D → DS) (dvs : List V) (da : DAr) : DE := fun ρ μ P R => da ρ μ (fun xs μ1 => DrawL pre val nxt (xs ++ dws dvs) μ1 P) R
end
section
variable {X : Cx} {Wx : WX} {k : Nat} {f : Addr} {ps : List Str} {dvs : List V} {x : Str} {p pos : Pos} {e : Expr} {es : List Expr} {tA : TA} {dA : DAr} {pre : DS → List D → Prop} {val : DS → List D → List D} {nxt : DS → List D → DS}
end
/-! ### a def that makes a drawer -/
def fsDrawer : FS := fun xs μ P _ => ∃ (ns : List Int) (k : Int), xs = [.d (.scr (ns.map D.int)), wi k] ∧ μ = [] ∧ 0 ≤ k ∧ k < 1000 ∧ P (.m 0) [.lst (drawerOf ns k).l]
section
variable {ρ : Rho} {μ : Mu} {d : Dn} {k : Nat}
def ClearI (x : W) (μ : Mu) (N : Mu → Prop) : Prop := ∃ k, x = .m k ∧ Got (mlist μ k) fun _ => N (μ.set k (.lst []))
end
end DL
namespace DL
open PySem L2 Evl
section
variable {d : Dn} {ρ : Rho} {μ : Mu}
end
end DL

set_option maxRecDepth 100000
set_option maxHeartbeats 400000
namespace DL
open PySem L2 Evl
/-- isinstance of a caught exception of an own class, its own dict or none -/
def rIsX (K : PySem.W.Frag) (cls : Value) (d : Option Addr) (a : Addr) : List V → Hp → VK → Prop := fun xs H Q => ∃ (D : Addr) (c : V) (cv : Value) (b : Bool), cls = .ref D ∧ ExcC K D ∧ (d = none ∨ ∃ dd fs, d = some dd ∧ H dd = some (.xd fs)) ∧ xs = [.ref a, c] ∧ (∀ u, RelV c u → u = cv) ∧ PySem.W.kitOne K (.ref D) cv = some b ∧ Q (.bl b) H
end DL

set_option Elab.async false
set_option linter.all false
set_option maxRecDepth 100000
set_option maxHeartbeats 4000000
/-! DL: raise, try. -/
namespace DL
open PySem L2 Evl

/-! ### raise -/
theorem pmk_own0 {X : Cx} {C : Addr} {bmB : List Value} {B newId initId : String} {x : Str} {p pos : Pos} (F : ExcBaseFacts B newId initId bmB) (q : PySem.W.excIn X.K C bmB newId = true) (gC : X.mg x = some (.ref C)) (kC : PySem.W.keepIn X.K (.ref C) = true) (r : Raises X (.ref C)) (hg : Gl X x) (hdb : (x == ("__debug__" : Str)) = false := by decide) :
    PMk X (.Call (.Name x p) [] [] pos) (fun _ H Q => Q (.ref C) none H) := fun pins s σ H Q I h =>
  wpAny_Call_Name_kw (ld_glob I hg gC (PySem.W.callWith_K0 (first := []) I.kIn kC (by
    obtain ⟨bm, N, nm, qn, bs, hdct, sn, sub, ab, col, dd, k0, k1, k2, k3, k5, mN, hC, hN, hni, T⟩ := exc_obj I.kIn q
    exact wpAny_call_exc_subT (rest := []) F T hC hN hni (fun h' e hm => mk_of I hm r h (HOk.gone I.hok hm.new)) (Nat.zero_le _))) hdb)
/-- raise C(), C an own class without __init__ -/
def dRaise0 (C : Addr) : DSt := fun d ρ μ => d.xc C [] ρ μ
section
variable {X : Cx} {Wx : WX} {K : PySem.W.Frag} {k : Nat} {f C : Addr} {x : Str} {p pos pos2 : Pos} {e : Expr} {es : List Expr} {tA : TA} {dA : DAr}
theorem b_raise0 {bmB : List Value} {B newId initId : String} (F : ExcBaseFacts B newId initId bmB) (q : PySem.W.excIn X.K C bmB newId = true ∧ PySem.W.keepIn X.K (.ref C) = true ∧ PySem.W.subIn X.K (.ref C) (.type "BaseException") = some true ∧ PySem.W.typeIn X.K (.ref C) = some (.type "type")) (hg : Gl X x) (gC : X.mg x = some (.ref C)) (hc : X.calm = true) (tk : Takes X Wx) (hdb : (x == ("__debug__" : Str)) = false := by decide) :
    BS X Wx (.Raise (some (.Call (.Name x p) [] [] pos)) none pos2) (fun _ σ H => Wx (.ref C) none σ H) (dRaise0 C) :=
  ⟨ps_raise hc tk (pmk_own0 F q.1 gC q.2.1 (raises_own q.2.2.1 q.2.2.2) hg hdb), fun ok st h e => e.xc (.refl _) ok st (.inl ⟨rfl, rfl⟩) h⟩
end

/-! an own class whose __init__ stores its arguments -/
def spO (K : PySem.W.Frag) (C : Addr) (fl : List Str) : Sp := fun vs H Q E => ∃ a us, vs = .ref a :: us ∧ us.length = fl.length ∧ H a = some (exo a C none) ∧ OexC K C ∧ (∀ f ∈ fl, PySem.W.findIn K (.ref C) f = some none) ∧
  ∀ d, H d = none → d ≠ a → Q .non (upd (upd H d (exd d (fl.zip us).reverse)) a (exo a C (some d)))
theorem init1 {K : PySem.W.Frag} {C : Addr} {f x1 x2 : Str} {vs : List V} {H : Hp} {Q : VK} {E : XK} (h : spO K C [f] vs H Q E) : tOst K f (tVar 0) (tVar 1) { nx := fun _ H' => Q .non H', rt := Q } (L2.start [x1, x2] vs) H := by
  obtain ⟨a, us, rfl, hl, ho, T, nf, q⟩ := h
  match us, hl with
  | [u], _ => exact ⟨u, rfl, .ref a, rfl, a, C, rfl, T, nf f (by simp), .inl ⟨ho, fun dx h1 h2 => q dx h1 h2⟩⟩
structure OkI (P : Program) (w : World) (K : PySem.W.Frag) (mg : Str → Option Value) (base : Heap) (k : Nat) (f C : Addr) (fl : List Str) : Prop where
  ex : ∃ fd ps, FnOk P w K mg base (L2.CX P w) k f fd ps (spO K C fl) ∧ Binds K fd ps []
  oc : OexC K C
  nf : ∀ g ∈ fl, PySem.W.findIn K (.ref C) g = some none
  at' : PySem.W.findIn K (.ref C) "__init__" = some (some (.ref f))
  ty : PySem.W.typeIn K (.ref f) = some (.type "function")
  sm : fl.length ≤ 900
theorem oki_of {P : Program} {w : World} {K : PySem.W.Frag} {mg : Str → Option Value} {base : Heap} {k : Nat} {f C : Addr} {N ps fl : List Str} {x qual : Str} {params : Arguments} {body : List Stmt} {scope : Scope} {kws : List (Str × V)} {fd : FuncData} (F : FunD K x qual params body scope [] kws f fd) (S : FnScope N ps scope)
    (hb : ∀ (kV doc pm : Value) (an : Option Addr) (cdv ct : Value) (us : List Value), us.length = ps.length → bindArgs (PySem.W.fnOf x qual params body scope .none kV doc pm an cdv ct) ⟨us, []⟩ = pure (ps.zip us))
    (len : ps.length = fl.length + 1) (oc : OexC K C) (nf : ∀ g ∈ fl, PySem.W.findIn K (.ref C) g = some none) (at' : PySem.W.findIn K (.ref C) "__init__" = some (some (.ref f))) (ty : PySem.W.typeIn K (.ref f) = some (.type "function")) (sm : fl.length ≤ 900)
    (bd : ∀ (cdv : Value) (A : Around) (outer : List Env) (s : Shared) (H : Hp) (E : XK), ∃ t, PSs (cxOf (L2.CX P w) P w K mg base N qual scope f cdv A outer s H E) body t ∧ ∀ vs Q, spO K C fl vs H Q E → t { nx := fun _ H' => Q .non H', rt := Q } (L2.start N vs) H) : OkI P w K mg base (k + 1) f C fl :=
  ⟨⟨fd, ps, F.ok S (fun vs H Q E h => by
      obtain ⟨a, us, rfl, hl, _⟩ := h
      rw [List.length_cons, hl, len]) (fun cdv A outer s H vs Q E hr h => by
      obtain ⟨t, h1, h2⟩ := bd cdv A outer s H E
      exact ⟨t, h1, h2 vs Q h⟩), F.bindsN hb⟩, oc, nf, at', ty, sm⟩
theorem AtF.app {K : PySem.W.Frag} {G : Hp} : ∀ {ds es : List (Str × D)} {vs us : List (Str × V)}, AtF K G ds vs → AtF K G es us → AtF K G (ds ++ es) (vs ++ us)
  | _, _, _, _, .nil, s => s
  | _, _, _, _, .cons h t, s => .cons h (AtF.app t s)
theorem AtF.zipRev {K : PySem.W.Frag} {G : Hp} : ∀ {fl : List Str} {ds : List D} {vs : List V}, Ats K G ds vs → AtF K G (fl.zip ds).reverse (fl.zip vs).reverse
  | [], _, _, _ => by simp; exact .nil
  | _ :: _, _, _, .nil => by simp; exact .nil
  | f :: fl, _, _, .cons h t => by
    rw [List.zip_cons_cons, List.zip_cons_cons, List.reverse_cons, List.reverse_cons]
    exact AtF.app (AtF.zipRev t) (.cons h .nil)
def tRaiseO (K : PySem.W.Frag) (C : Addr) (fl : List Str) (Wx : WX) (tA : TA) : TS := fun _ σ H => tMkO C (spO K C fl) [] tA σ H (fun cls d H' => Wx cls d σ H')
def dRaiseO (C : Addr) (fl : List Str) (dA : DAr) : DSt := fun d ρ μ => dA ρ μ (fun xs μ' => Got (alls xs) fun ds => ds.length = fl.length ∧ d.xc C (fl.zip ds).reverse ρ μ') (d.x ρ)
theorem del_upd {H : Hp} {a d : Addr} {x y z u : HO} (ha : H a = none) (h : d ≠ a) : upd (del (upd (upd (upd H a x) d y) a z) a) d u = upd H d u := by
  funext b
  by_cases h2 : b = d
  · subst h2
    rw [upd_same, upd_same]
  · rw [upd_ne h2, upd_ne h2]
    unfold del
    by_cases h1 : b = a
    · subst h1
      rw [if_pos rfl, ha]
    · rw [if_neg h1, upd_ne h1, upd_ne h2, upd_ne h1]
section
variable {K : PySem.W.Frag} {Wx : WX} {tA : TA} {dA : DAr}
theorem sim_raiseO {C : Addr} {fl : List Str} (oc : OexC K C) (nf : ∀ g ∈ fl, PySem.W.findIn K (.ref C) g = some none) (sm : fl.length ≤ 900) (h : SimA K Wx tA dA) : SimS K Wx (tRaiseO K C fl Wx tA) (dRaiseO C fl dA) := fun {w σ ρ μ d De} ok st q e =>
  h ok st q (fun w1 μ1 xs vs s1 ok1 hx p => by
    obtain ⟨ds, e1, e2, p⟩ := p
    have ats := alls_ats hx e1
    have hl : vs.length = fl.length := by rw [← ats.length, e2]
    refine ⟨by omega, fun a ha => ⟨a, vs ++ [], rfl, by rw [List.append_nil]; exact hl, upd_same, oc, nf, fun dd hd hne => ?_⟩⟩
    have hd' : w1.H dd = none := by rw [← hd, upd_ne hne]
    refine ⟨rfl, dd, (fl.zip vs).reverse, upd_same, ?_, hd', ?_⟩
    · rw [upd_ne hne, upd_same, List.append_nil]
    · rw [del_upd ha hne]
      exact e.xc (s1.trans (Step.new ok1 hd')) (ok1.new hd') ((st.step s1).step (Step.new ok1 hd')) (.inr ⟨dd, (fl.zip vs).reverse, rfl, upd_same, AtF.zipRev (Ats.mono (Ex.new (none_back (ok1.gb.trans ok1.bh) hd')) ats)⟩) p) (e.qx st)
end
section
variable {X : Cx} {Wx : WX} {K : PySem.W.Frag} {k : Nat} {f C : Addr} {x : Str} {p pos pos2 : Pos} {e : Expr} {es : List Expr} {tA : TA} {dA : DAr} {fl : List Str}
theorem b_raiseO (h : OkI X.prog X.w K X.mg X.base k f C fl) (hr : Room (k + 1) X.A) (hg : Gl X x) (hm : X.mg x = some (.ref C)) (hc : X.calm = true) (tk : Takes X Wx) (ha : BA X Wx (e :: es) tA dA) (hK : K = X.K := by rfl)
    (h1 : (x == ("__debug__" : Str)) = false := by decide) (h2 : starEach (e :: es) X.env = (false, eval e X.env) :: starEach es X.env := by rfl) (h3 : (backTo pos (starEach es X.env)).any (·.1) = false := by rfl) :
    BS X Wx (.Raise (some (.Call (.Name x p) (e :: es) [] pos)) none pos2) (tRaiseO K C fl Wx tA) (dRaiseO C fl dA) := by
  subst hK
  obtain ⟨fd, ps, F, hb⟩ := h.ex
  exact ⟨ps_raise hc tk (pmk_oex h.oc h.at' h.ty F hr hb .nil (passes_call tk fun _ _ _ _ q => q.elim) hg hm ha.pa h1 h2 h3), sim_raiseO h.oc h.nf h.sm ha.sim⟩
end
end DL

set_option Elab.async false
set_option linter.all false
set_option maxRecDepth 100000
set_option maxHeartbeats 4000000
/-! DL: try; what is asked of a caught exception. -/
namespace DL
open PySem L2 Evl

/-- what is left of a suite: the name of the exception is gone -/
abbrev Dn.gone (d : Dn) (i : Nat) : Dn := { nx := fun ρ μ => d.nx (ρ.set i none) μ, rt := d.rt, bk := fun ρ μ => d.bk (ρ.set i none) μ, ct := fun ρ μ => d.ct (ρ.set i none) μ }
abbrev Dn.calm (d : Dn) : Dn := { nx := d.nx, rt := d.rt, bk := d.bk, ct := d.ct }
abbrev DSu := Addr → Value → Option Addr → DSt
def dTryAs (K : PySem.W.Frag) (c : Value) (i : Nat) (db : DSt) (ds : DSu) : DSt := fun d ρ μ => db { d with xc := fun C fs ρ1 μ1 => Got (PySem.W.exmOne K (.ref C) c) fun b => (b = true → ∀ (a : Addr) (o : Option Addr), ds a (.ref C) o (d.gone i) (ρ1.set i (some (.d (.xc a o fs)))) μ1) ∧ (b = false → d.xc C fs ρ1 μ1) } ρ μ
def dTryOnly (K : PySem.W.Frag) (c : Value) (db : DSt) (ds : DSu) : DSt := fun d ρ μ => db { d with xc := fun C fs ρ1 μ1 => Got (PySem.W.exmOne K (.ref C) c) fun b => (b = true → ∀ (a : Addr) (o : Option Addr), ds a (.ref C) o d.calm ρ1 μ1) ∧ (b = false → d.xc C fs ρ1 μ1) } ρ μ
abbrev W0 : WX := fun _ _ _ _ => False
section
variable {K : PySem.W.Frag} {Wx : WX}
theorem XAt.at' {w : Wd} {o : Option Addr} {fs : List (Str × D)} {a : Addr} (h : XAt K w o fs) : At K w.G (.xc a o fs) (.ref a) := by
  rcases h with ⟨rfl, rfl⟩ | ⟨dd, xs, rfl, h1, h2⟩
  · exact .xc (xs := []) (.inl ⟨rfl, rfl⟩) .nil
  · exact .xc (.inr ⟨dd, rfl, h1⟩) h2
theorem Sto.gone {w : Wd} {σ : L2.St} {ρ : Rho} {i : Nat} (h : Sto K w σ ρ) : Sto K w (σ.set i none) (ρ.set i none) := h.setN
end
section
variable {X : Cx} {Wx : WX} {K : PySem.W.Frag} {x n : Str} {c : Value} {i : Nat} {body suite : List Stmt} {b₀ : Stmt} {np pos pos' : Pos} {tb : WX → TS} {ts : Addr → Value → Option Addr → TS} {db : DSt} {ds : DSu}
def oeOf (cls : Value) (d : Option Addr) : Obj := { cls := cls, dict := d, data := .fields #[] }
end

/-! ### a caught exception: its fields, its class -/
def dXf (cls : Value) (C : Addr) (f : Str) (de : DE) : DE := fun ρ μ P R => de ρ μ (fun x μ' => ∃ a o fs, x = .d (.xc a o fs) ∧ cls = .ref C ∧ Got (fs.lookup f) fun y => P (.d y) μ') R
structure XfOk (K : PySem.W.Frag) (f : Str) (C : Addr) : Prop where
  xf : XfC K C
  no : PySem.W.findIn K (.ref C) f = some none
end DL

set_option Elab.async false
set_option linter.all false
set_option maxRecDepth 100000
set_option maxHeartbeats 4000000
/-! DL: an own class's [] and (). -/
namespace DL
open PySem L2 Evl
section
variable {X : Cx} {Wx : WX} {k : Nat} {f C : Addr} {fd : FuncData} {ps : List Str} {fs : FS} {dvs : List V} {ds : List Value}
/-- the def runs, within something -/
theorem run_in {A' : Around} {pins : List (Addr × Obj)} {σ : L2.St} {H : Hp} {s : Shared} {Q : VK} {us : List Value} {vs : List V} (F : FnD X.prog X.w X.K X.mg X.base k f fd ps fs) (hr : Room k A') (e0 : Env0 X.prog X.w X.K X.mg X.base A' X.stack s H) (hb : Binds X.K fd ps ds) (hd : Vals dvs ds) (tk : Takes X Wx)
    (I : Inv X pins σ H s) (r : Vals vs us) (h : toSp X.K fs (vs ++ dvs) H Q (XkOf Wx σ)) : codeAny (model X.prog X.w) A' (.call (.ref f) ⟨us, []⟩) (fun res s' => match res with
      | .error e => X.xe e s'
      | .ok (.ret u) => EP X pins σ Q u s'
      | _ => False) s := by
  have both : Vals (vs ++ dvs) (us ++ ds) := r.append hd
  have len : (us ++ ds).length = ps.length := both.length.symm.trans (F.len _ _ _ _ h)
  have go := F.run A' X.stack s H ⟨us, []⟩ (us ++ ds) (vs ++ dvs) Q (XkOf Wx σ) hr e0 (hb s us I.kIn len) both h
  refine codeAny_mono go fun res s' hq => ?_
  match res, hq with
  | .error e, hq => exact passAt tk σ pins H s e s' I hq
  | .ok (.ret u), hq => exact I.after hq
  | .ok .next, hq => exact hq.elim
  | .ok .brk, hq => exact hq.elim
  | .ok .cont, hq => exact hq.elim
/-- a[b] by the class's own -/
def rGetO (K : PySem.W.Frag) (C : Addr) (fs : FS) (Wx : WX) (σ : L2.St) (x y : V) (H : Hp) (Q : VK) : Prop := ∃ a dx gs, x = .ref a ∧ H a = some (.ins C dx gs) ∧ toSp K fs [x, y] H Q (XkOf Wx σ)
def tGetO (K : PySem.W.Frag) (C : Addr) (fs : FS) (Wx : WX) (ta tb : TE) : TE := fun σ H Q => ta σ H fun x H1 => tb σ H1 fun y H2 => rGetO K C fs Wx σ x y H2 Q
def tCallO (K : PySem.W.Frag) (C : Addr) (fs : FS) (dvs : List V) (Wx : WX) (to : TE) (t : TA) : TE := fun σ H Q => to σ H fun x H1 => ∃ a, x = .ref a ∧ t σ H1 fun vs H2 => ∃ dx gs, H2 a = some (.ins C dx gs) ∧ toSp K fs (x :: (vs ++ dvs)) H2 Q (XkOf Wx σ)
end
end DL

set_option Elab.async false
set_option linter.all false
set_option maxRecDepth 100000
set_option maxHeartbeats 4000000
/-! DL: promises that may raise; a caught exception's fields and class. -/
namespace DL
open PySem L2 Evl

/-! ### a promise by data that may raise -/
abbrev XR := Except (Addr × List (Str × D)) D
def gives (r : XR) (P : D → Prop) (R : Addr → List (Str × D) → Prop) : Prop := match r with
  | .ok y => P y
  | .error e => R e.1 e.2
def purX (pre : List D → Prop) (out : List D → XR) : FS := fun xs μ P R => ∃ ds, xs = ds.map .d ∧ pre ds ∧ μ = [] ∧ gives (out ds) (fun y => P (.d y) []) (fun C gs => R C gs [])
section
variable {K : PySem.W.Frag} {Wx : WX} {w : Wd} {μ : Mu} {P : PN} {R : PX} {pre : List D → Prop} {out : List D → XR} {ρ : Rho} {σ : L2.St}
theorem call_purX {xs : List W} (h : Got (alls xs) fun ds => pre ds ∧ gives (out ds) (fun y => P (.d y) μ) (fun C gs => R C gs μ)) : CallW (purX pre out) xs μ P R := by
  obtain ⟨ds, e, hp, p⟩ := h
  rw [alls_eq e]
  refine ⟨[], [], ds.map .d, fun x ν => ∃ y, out ds = .ok y ∧ x = .d y ∧ ν = [], fun C gs ν => out ds = .error (C, gs) ∧ ν = [], List.nodup_nil, by simp, by simp, pass_all, ⟨ds, rfl, hp, rfl, ?_⟩, fun x ν _ h => ?_, fun C gs ν _ h => ?_⟩
  · cases q : out ds with
    | ok y => exact ⟨y, rfl, rfl, rfl⟩
    | error e => exact ⟨rfl, rfl⟩
  · obtain ⟨y, q, rfl, rfl⟩ := h
    refine ⟨trivial, ?_⟩
    rw [q] at p
    show P (.d y) (μ ++ [])
    rw [List.append_nil]
    exact p
  · obtain ⟨q, rfl⟩ := h
    rw [q] at p
    show R C gs (μ ++ [])
    rw [List.append_nil]
    exact p
def dPurX (pre : List D → Prop) (out : List D → XR) (dvs : List V) (da : DAr) : DE := fun ρ μ P R => da ρ μ (fun xs μ1 => Got (alls (xs ++ dws dvs)) fun ds => pre ds ∧ gives (out ds) (fun y => P (.d y) μ1) (fun C gs => R C gs μ1)) R
/-- a op b by the class's own, which may raise -/
def OwnX (C : Addr) (pre : List D → Prop) (out : List D → XR) (x y : W) (μ : Mu) (P : PN) (R : PX) : Prop := ∃ gs hs, x = .d (.obj C gs) ∧ y = .d (.obj C hs) ∧ pre [.obj C gs, .obj C hs] ∧ gives (out [.obj C gs, .obj C hs]) (fun z => (∃ q, z = .obj C q) ∧ P (.d z) μ) (fun E es => R E es μ)
def dOwnX (C : Addr) (pre : List D → Prop) (out : List D → XR) (da db : DE) : DE := fun ρ μ P R => da ρ μ (fun x μ1 => db ρ μ1 (fun y μ2 => OwnX C pre out x y μ2 P R) R) R
/-- a[b] by the class's own -/
def GetX (C : Addr) (pre : List D → Prop) (out : List D → XR) (x y : W) (μ : Mu) (P : PN) (R : PX) : Prop := ∃ gs, x = .d (.obj C gs) ∧ ∃ z, y = .d z ∧ pre [.obj C gs, z] ∧ gives (out [.obj C gs, z]) (fun z => P (.d z) μ) (fun E es => R E es μ)
def dGetX (C : Addr) (pre : List D → Prop) (out : List D → XR) (da db : DE) : DE := fun ρ μ P R => da ρ μ (fun x μ1 => db ρ μ1 (fun y μ2 => GetX C pre out x y μ2 P R) R) R
/-- o(a, ..) by the class's own; the arguments leave the instance as it is -/
def CallX (C : Addr) (pre : List D → Prop) (out : List D → XR) (x : W) (xs : List W) (μ : Mu) (P : PN) (R : PX) : Prop := ∃ gs, x = .d (.obj C gs) ∧ Got (alls xs) fun ds => pre (.obj C gs :: ds) ∧ gives (out (.obj C gs :: ds)) (fun z => P (.d z) μ) (fun E es => R E es μ)
def dCallX (C : Addr) (pre : List D → Prop) (out : List D → XR) (dx : DE) (da : DAr) : DE := fun ρ μ P R => dx ρ μ (fun x μ1 => (∃ gs, x = .d (.obj C gs)) ∧ da ρ μ1 (fun xs μ2 => CallX C pre out x xs μ2 P R) R) R
end
end DL

set_option Elab.async false
set_option linter.all false
set_option maxRecDepth 100000
set_option maxHeartbeats 4000000
/-! DL: the rules of what may raise; a caught exception's fields and class. -/
namespace DL
open PySem L2 Evl
section
variable {X : Cx} {Wx : WX} {K : PySem.W.Frag} {k : Nat} {f C : Addr} {ps : List Str} {dvs : List V} {x : Str} {p pos apos : Pos} {a b e o : Expr} {es : List Expr} {ta tb te to : TE} {da db de dx : DE} {tA : TA} {dA : DAr} {pre : List D → Prop} {out : List D → XR}
end

/-! ### a caught exception -/
section
variable {K : PySem.W.Frag} {Wx : WX} {μ : Mu} {P : PN} {R : PX} {ρ : Rho} {σ : L2.St}
def dXa (a : Addr) (d : Option Addr) (cls : Value) (C : Addr) (f : Str) (de : DE) : DE := fun ρ μ P R => de ρ μ (fun x μ' => ∃ fs, x = .d (.xc a d fs) ∧ cls = .ref C ∧ Got (fs.lookup f) fun y => P (.d y) μ') R
def isx (K : PySem.W.Frag) : Value → V → Option Bool
  | .ref D, .ref C => PySem.W.kitOne K (.ref D) (.ref C)
  | .ref D, .ty T => PySem.W.kitOne K (.ref D) (.type T)
  | _, _ => none
def dIsX (K : PySem.W.Frag) (cls : Value) (d : Option Addr) (a : Addr) : DC := fun xs μ P _ => ∃ fs c D, xs = [.d (.xc a d fs), .d (.v c)] ∧ cls = .ref D ∧ ExcC K D ∧ Got (isx K (.ref D) c) fun b => P (wb b) μ
end
section
variable {X : Cx} {Wx : WX} {K : PySem.W.Frag} {e : Expr} {te : TE} {de : DE} {pos : Pos} {f : Str} {a C : Addr} {oe : Obj} {cls : Value} {d : Option Addr} {pn : List (Addr × Obj)}
end
end DL

set_option Elab.async false
set_option linter.all false
set_option maxRecDepth 100000
set_option maxHeartbeats 4000000
/-! DL: facts of exception classes; a chained comparison; calls within a try. -/
namespace DL
open PySem L2 Evl
/-- what a caught exception of this class is asked -/
def exfB (K : PySem.W.Frag) (C : Addr) : Bool := He.eqO (PySem.W.findIn K (.ref C) "__getattribute__") (some (some (.builtin "BaseException.__getattribute__"))) && (He.eqO (PySem.W.findIn K (.ref C) "__getattr__") (some none) && (decide (PySem.W.subIn K (.ref C) (.type "BaseException") = some true) && (PySem.W.hasDictIn K C &&
  (He.eqO (PySem.W.findIn K (.ref C) "__class__") (some (some (.builtin "object.__class__"))) && (He.eqO (PySem.W.specialIn K (.builtin "object.__class__") "__get__") (some (some (.builtin "getset_descriptor.__get__"))) && (decide (PySem.W.takesIn K (.builtin "object.__class__") = some true) && decide (PySem.W.mroIn K C (.type "object") = some true)))))))
/-- the shape of an own exception class -/
def oexO (C : Addr) (o : Option Obj) : Bool := match o with
  | some ⟨.type T, _, .cls cd, sl⟩ => decide (T = "type") && (match cd.mro, sl.toList with
    | .ref C' :: bm, [_, _, _, _, some (.builtin n), _] => decide (C' = C) && (decide (n = "ValueError.__new__") && (cd.hasDict && (!cd.hasDel && HandSPX.refsVE bm)))
    | _, _ => false)
  | _ => false
theorem oexO_ok {C : Addr} {o : Option Obj} (h : oexO C o = true) : ∃ nm q N bs bm sn sub ab col dd k0 k1 k2 k3 k5, o = some (excClassObj nm q C N bs bm true sn sub ab col dd k0 k1 k2 k3 k5 "ValueError.__new__") ∧ HandSPX.refsVE bm = true := by
  unfold oexO at h
  split at h
  · rename_i T dd cd sl
    obtain ⟨h1, h⟩ := He.ba h
    have e1 := of_decide_eq_true h1
    split at h
    · rename_i C' bm k0 k1 k2 k3 n k5 e2 e3
      obtain ⟨h2, h⟩ := He.ba h
      obtain ⟨h3, h⟩ := He.ba h
      obtain ⟨h4, h⟩ := He.ba h
      obtain ⟨h5, h6⟩ := He.ba h
      have e4 := of_decide_eq_true h2
      have e5 := of_decide_eq_true h3
      subst e1 e4 e5
      obtain ⟨nm, bs, mro, N, q, hd, sn, sub, ab, col, del⟩ := cd
      simp only at e2 h4 h5
      subst e2 h4
      have e6 : del = false := by simpa using h5
      subst e6
      have e7 : sl = #[k0, k1, k2, k3, some (.builtin "ValueError.__new__"), k5] := by
        rw [← Array.toArray_toList (xs := sl), e3]
      refine ⟨nm, q, N, bs, bm, sn, sub, ab, col, dd, k0, k1, k2, k3, k5, ?_, h6⟩
      rw [e7]
    · cases h
  · cases h
def oexB (K : PySem.W.Frag) (C : Addr) : Bool := oexO C (List.lookup C K) && (He.eqO (PySem.W.findIn K (.ref C) "__setattr__") (some (some (.builtin "object.__setattr__"))) && (decide (PySem.W.subIn K (.ref C) (.type "BaseException") = some true) && (decide (PySem.W.typeIn K (.ref C) = some (.type "type")) && PySem.W.keepIn K (.ref C))))
theorem oexB_ok {K : PySem.W.Frag} {C : Addr} (h : oexB K C = true) : OexC K C := by
  obtain ⟨h1, h⟩ := He.ba h
  obtain ⟨h2, h⟩ := He.ba h
  obtain ⟨h3, h⟩ := He.ba h
  obtain ⟨h4, h5⟩ := He.ba h
  exact ⟨oexO_ok h1, He.eqO_ok h2, of_decide_eq_true h3, of_decide_eq_true h4, h5⟩
/-- a < b < c -/
def dChain (r r' : D2) (da db dc : DE) : DE := fun ρ μ P R => da ρ μ (fun x μ1 => db ρ μ1 (fun y μ2 => r x y μ2 (fun z μ3 => ∃ k, z = wb k ∧ (k = true → dc ρ μ3 (fun u μ4 => r' y u μ4 P R) R) ∧ (k = false → P (wb false) μ3)) R) R) R
section
variable {K : PySem.W.Frag} {Wx : WX} {r r' : D2} {da db dc : DE} {ρ : Rho} {μ : Mu} {P : PN} {R : PX}
theorem sim_chain {q q' : R2} {ta tb tc : TE} (hr : Op2 K Wx q r) (hr' : Op2 K Wx q' r') (ha : Sim K Wx ta da) (hb : Sim K Wx tb db) (hc : Sim K Wx tc dc) : Sim K Wx (tChain q q' ta tb tc) (dChain r r' da db dc) := fun {w σ ρ μ P R} ok st h {Q} qn qx =>
  ha ok st h (fun w1 μ1 x v s1 ok1 hx h1 => hb ok1 (st.step s1) h1 (fun w2 μ2 y u s2 ok2 hy h2 => hr (σ := σ) ok2 (hx.step s2) hy h2 (fun w3 μ3 z t s3 ok3 hz ⟨k, e, p, p'⟩ => by
    subst e
    cases hz
    refine ⟨k, rfl, ?_⟩
    cases k with
    | true => exact iteT (hc ok3 (((st.step s1).step s2).step s3) (p rfl) (fun w4 μ4 c n s4 ok4 hcc h4 => hr' (σ := σ) ok4 ((hy.step s3).step s4) hcc h4 (qn.step (((s1.trans s2).trans s3).trans s4)) (qx.step (((s1.trans s2).trans s3).trans s4))) (qx.step ((s1.trans s2).trans s3)))
    | false => exact iteF (qn w3 μ3 _ _ ((s1.trans s2).trans s3) ok3 .imm (p' rfl))) (qx.step (s1.trans s2))) (qx.step s1)) qx
end
section
variable {X : Cx} {Wx : WX} {a b c : Expr} {ta tb tc : TE} {da db dc : DE} {pos : Pos} {op op' : CmpOp} {q q' : R2} {r r' : D2}
theorem b_chain (ho : OpR X (compareOp op) q) (hs : Op2 X.K Wx q r) (ho' : OpR X (compareOp op') q') (hs' : Op2 X.K Wx q' r') (ha : BE X Wx a ta da) (hb : BE X Wx b tb db) (hc : BE X Wx c tc dc) (hm : lastMarks [op, op'] [b, c] = false := by rfl) : BE X Wx (.Compare a [op, op'] [b, c] pos) (tChain q q' ta tb tc) (dChain r r' da db dc) := ⟨pe_chain ho ho' ha.pe hb.pe hc.pe hm, sim_chain hs hs' ha.sim hb.sim hc.sim⟩
theorem b_chainT (ho : OpR X (compareOp op) q) (hs : Op2 X.K Wx q r) (ho' : OpR X (compareOp op') q') (hs' : Op2 X.K Wx q' r') (ha : BE X Wx a ta da) (hb : BE X Wx b tb db) (hc : BE X Wx c tc dc) (hm : lastMarks [op, op'] [b, c] = false := by rfl) : BT X Wx (.Compare a [op, op'] [b, c] pos) (tTest (tChain q q' ta tb tc)) (dTest (dChain r r' da db dc)) := ⟨pt_chain ho ho' ha.pe hb.pe hc.pe hm, sim_test (sim_chain hs hs' ha.sim hb.sim hc.sim)⟩
end
/-! walking -/
section
variable {K : PySem.W.Frag} {ρ : Rho} {μ : Mu} {d : Dn}
/-- what a try makes of an exception -/
def xcAs (K : PySem.W.Frag) (c : Value) (i : Nat) (ds : DSu) (d : Dn) : Addr → List (Str × D) → Rho → Mu → Prop := fun C fs ρ1 μ1 => Got (PySem.W.exmOne K (.ref C) c) fun b => (b = true → ∀ (a : Addr) (o : Option Addr), ds a (.ref C) o (d.gone i) (ρ1.set i (some (.d (.xc a o fs)))) μ1) ∧ (b = false → d.xc C fs ρ1 μ1)
def xcOnly (K : PySem.W.Frag) (c : Value) (ds : DSu) (d : Dn) : Addr → List (Str × D) → Rho → Mu → Prop := fun C fs ρ1 μ1 => Got (PySem.W.exmOne K (.ref C) c) fun b => (b = true → ∀ (a : Addr) (o : Option Addr), ds a (.ref C) o d.calm ρ1 μ1) ∧ (b = false → d.xc C fs ρ1 μ1)
end

section
variable {K : PySem.W.Frag} {Wx : WX} {μ : Mu} {P : PN} {R : PX} {pre : List D → Prop} {out : List D → XR} {ρ : Rho} {dvs : List V} {C : Addr} {m : Str}
def dMetX (C : Addr) (m : Str) (pre : List D → Prop) (out : List D → XR) (dvs : List V) (dx : DE) (da : DAr) : DE := fun ρ μ P R => dx ρ μ (fun x μ1 => (∃ gs, x = .d (.obj C gs) ∧ gs.lookup m = none) ∧ da ρ μ1 (fun xs μ2 => CallX C pre out x (xs ++ dws dvs) μ2 P R) R) R
theorem sim_metX {to : TE} {ta : TA} {dx : DE} {da : DAr} (ho : Sim K Wx to dx) (ha : SimA K Wx ta da) : Sim K Wx (tMet K C m (purX pre out) dvs Wx to ta) (dMetX C m pre out dvs dx da) := fun {w σ ρ μ P R} ok st q {Q} qn qx =>
  ho ok st q (fun w1 μ1 x v s1 ok1 ax q1 => by
    obtain ⟨⟨gs, rfl, hl⟩, q1⟩ := q1
    obtain ⟨a, dx, us, rfl, h1, h2⟩ := ins_ok (l := false) ok1 ax rfl
    refine ⟨a, dx, us, rfl, h1, h2.none hl, ha ok1 (st.step s1) q1 (fun w2 μ2 xs vs s2 ok2 hx p => ?_) (qx.step s1)⟩
    obtain ⟨gs', e, ds, ea, hp, p⟩ := p
    cases e
    exact call_sp ok2 (.cons (ax.step s2) (hx.append dflts)) (call_purX (R := R) ⟨.obj C gs :: ds, by rw [alls_d, ea]; rfl, hp, p⟩) (qn.step (s1.trans s2)) (qx.step (s1.trans s2))) qx
end
section
variable {X : Cx} {Wx : WX} {K : PySem.W.Frag} {k : Nat} {f C : Addr} {ps : List Str} {dvs : List V} {p pos apos : Pos} {e o : Expr} {es : List Expr} {ta : TE} {da : DE} {tA : TA} {dA : DAr} {pre : List D → Prop} {out : List D → XR}
theorem b_metX {m : Str} {pl : Sem Bool} (h : Ok X.prog X.w K X.mg X.base k f ps dvs (purX pre out)) (hr : Room k X.A) (tk : Takes X Wx) (c : Cls K C) (hm : Meth K C m f) (he : BE X Wx o ta da) (ha : BA X Wx (e :: es) tA dA) (hK : K = X.K := by rfl)
    (h2 : starEach (e :: es) X.env = (false, eval e X.env) :: starEach es X.env := by rfl) (h3 : (backTo pos (starEach es X.env)).any (·.1) = false := by rfl)
    (ht : eval (.Call (.Attribute o m apos) (e :: es) [] pos) X.env = (do
      let v ← eval o X.env
      standAt apos.atName
      let (g, one) ← holding [v] (getMethod v m pl)
      callWith pos g one (backTo pos (starEach (e :: es) X.env)) (backToKw pos (keywordEach [] X.env))) := by rfl) :
    BE X Wx (.Call (.Attribute o m apos) (e :: es) [] pos) (tMet K C m (purX pre out) dvs Wx ta tA) (dMetX C m pre out dvs da dA) := by
  subst hK
  obtain ⟨fd, ds, F, hb, hd, hk⟩ := h.ex
  exact ⟨pe_met he.pe c hm F hr hb hd tk ha.pa h2 h3 ht, sim_metX he.sim ha.sim⟩
end
end DL

set_option Elab.async false
set_option linter.all false
set_option maxRecDepth 100000
set_option maxHeartbeats 4000000
/-! DL: a value's truth as a test. -/
namespace DL
open PySem L2 Evl
def truW (μ : Mu) : W → Option Bool
  | .d y => truth y
  | .b y => truth y
  | .m k => (mlist μ k).map fun ds => !ds.isEmpty
def dTruW (d : DE) : DTe := fun ρ μ P R => d ρ μ (fun x μ1 => Got (truW μ1 x) fun k => P k μ1) R
def tTruW (K : PySem.W.Frag) (te : TE) : TT := fun σ H Q => te σ H fun x H' => ∃ k, TruV K x H' k ∧ Q k H'
section
variable {K : PySem.W.Frag} {Wx : WX} {w : Wd} {μ : Mu} {ρ : Rho} {P : Bool → Mu → Prop} {R : PX}
theorem TruV.mono {G H : Hp} {v : V} {k : Bool} (e : Ex G H) (h : TruV K v G k) : TruV K v H k := by
  cases v with
  | ref p =>
    rcases h with ⟨xs, h, q⟩ | ⟨xs, h, q⟩ | ⟨xs, h, q⟩
    · exact .inl ⟨xs, ex_l e h, q⟩
    · exact .inr (.inl ⟨xs, ex_t e h, q⟩)
    · exact .inr (.inr ⟨xs, e _ _ h, q⟩)
  | _ => exact h
end
/-! ### built-in calls where K is named openly (in a comprehension, in a try) -/
structure Cb (K : PySem.W.Frag) (f : Value) (dr : DC) where
  r : List V → Hp → VK → Prop
  hs : ∀ Wx : WX, OpC K Wx r dr
  hc : ∀ X : Cx, X.K = K → CallR X f r
section
variable (K : PySem.W.Frag)
def cb_tuple : Cb K (.type "tuple") dTuple := ⟨_, fun Wx => @opc_tuple K Wx, fun X e => by subst e; exact call_tuple_of⟩
def cb_list : Cb K (.type "list") dList := ⟨_, fun Wx => @opc_list K Wx, fun X e => by subst e; exact call_list_of⟩
def cb_int : Cb K (.type "int") dInt := ⟨_, fun Wx => @opc_int K Wx, fun X e => by subst e; exact call_int1⟩
def cb_len : Cb K (.builtin "len") dLen := ⟨_, fun Wx => @opc_len K Wx, fun X e => by subst e; exact call_len⟩
def cb_abs : Cb K (.builtin "abs") dAbs := ⟨_, fun Wx => @opc_abs K Wx, fun X e => by subst e; exact call_abs⟩
def cb_isi : Cb K (.builtin "isinstance") (dIsi K) := ⟨_, fun Wx => @opc_isi K Wx, fun X e => by subst e; exact call_isi⟩
end
section
variable {X : Cx} {Wx : WX} {K : PySem.W.Frag} {x : Str} {p pos : Pos} {e : Expr} {es : List Expr} {tA : TA} {dA : DAr} {dr : DC}
end
end DL

set_option Elab.async false
set_option linter.all false
set_option maxRecDepth 100000
set_option maxHeartbeats 4000000
/-! QM: the mathematics of terms: cells with weights, their normal form. -/
namespace QM
open DL
abbrev T3 := Int × Int × Int
def keyT (t : T3) : Int × Int := (t.2.1, t.1)
def keyI (t : T3) : Int := 40 * t.2.1 + t.1
def wtT (t : T3) : Int := t.2.2
def ws3 (ts : List T3) (x y : Int) : Int := sumAt keyT wtT ts (y, x)
def InB (ts : List T3) : Prop := ∀ t ∈ ts, 0 ≤ t.1 ∧ t.1 < 40 ∧ 0 ≤ t.2.1 ∧ t.2.1 < 40
def nfAt (ts : List T3) (k : Nat) : Option T3 := if ws3 ts ((k : Int) % 40) ((k : Int) / 40) = 0 then none else some ((k : Int) % 40, (k : Int) / 40, ws3 ts ((k : Int) % 40) ((k : Int) / 40))
def nf (ts : List T3) : List T3 := (List.range 1600).filterMap (nfAt ts)
def lt3 (a b : T3) : Prop := a.2.1 < b.2.1 ∨ (a.2.1 = b.2.1 ∧ a.1 < b.1)
def timesT (f : Int) (ts : List T3) : List T3 := ts.map fun t => (t.1, t.2.1, f * t.2.2)
theorem InB.append {a b : List T3} (h : InB a) (h' : InB b) : InB (a ++ b) := fun t ht => (List.mem_append.mp ht).elim (h t) (h' t)
theorem InB.times {f : Int} {a : List T3} (h : InB a) : InB (timesT f a) := fun t ht => by
  unfold timesT at ht
  rw [List.mem_map] at ht
  obtain ⟨u, hu, rfl⟩ := ht
  exact h u hu
theorem InB.nil : InB [] := fun t h => nomatch h
/-! the program's way: pairs of the row and the column, sorted -/
def outT (s : List ((Int × Int) × Int)) (p : Int × Int) : Option T3 := if (valA s p).getD 0 = 0 then none else some (p.2, p.1, (valA s p).getD 0)
/-! the law's way: numbers of cells, sorted -/
def outI (s : List (Int × Int)) (k : Int) : Option T3 := if (valA s k).getD 0 = 0 then none else some (k % 40, k / 40, (valA s k).getD 0)
end QM

set_option Elab.async false
set_option linter.all false
set_option maxRecDepth 100000
set_option maxHeartbeats 4000000
/-! FR: what a def does, as a function over data; it is sound for the layer's wishes. -/
namespace FR
open PySem L2 Evl DL

inductive Ro (α : Type) where
  | ok (a : α) (μ : Mu)
  | ex (C : Str) (fs : List (Str × D)) (μ : Mu)
abbrev M (α : Type) := Option (Ro α)
def Post {α : Type} (ga : Str → Addr) (P : α → Mu → Prop) (R : PX) : Ro α → Prop
  | .ok a μ => P a μ
  | .ex C fs μ => R (ga C) fs μ
def bd {α β : Type} (x : M α) (k : α → Mu → M β) : M β :=
  match x with
  | none => none
  | some (.ok a μ) => k a μ
  | some (.ex C fs μ) => some (.ex C fs μ)
section
variable {α β : Type} {x y : M α} {k : α → Mu → M β} {a : α} {μ : Mu} {C : Str} {fs : List (Str × D)}
theorem bd_ok : bd (some (.ok a μ)) k = k a μ := rfl
theorem bd_ex : bd (some (.ex C fs μ)) k = some (.ex C fs μ) := rfl
theorem bd_none : bd none k = none := rfl
theorem bd_ite {c : Prop} [Decidable c] : bd (if c then x else y) k = if c then bd x k else bd y k := by split <;> rfl
end
section
variable {ga : Str → Addr}
def Sat {α : Type} (ga : Str → Addr) (x : M α) (w : (α → Mu → Prop) → PX → Prop) : Prop := ∀ r, x = some r → ∀ P R, Post ga P R r → w P R
theorem sat_bd {α β : Type} {x : M α} {k : α → Mu → M β} {w : (α → Mu → Prop) → PX → Prop} {w' : α → Mu → (β → Mu → Prop) → PX → Prop} {v : (β → Mu → Prop) → PX → Prop} (h : Sat ga x w) (hk : ∀ a μ, Sat ga (k a μ) (w' a μ)) (i : ∀ P R, w (fun a μ => w' a μ P R) R → v P R) : Sat ga (bd x k) v := by
  intro r e P R p
  cases x with
  | none => cases e
  | some q =>
    cases q with
    | ok a μ => exact i _ _ (h _ rfl _ _ (show w' a μ P R from hk a μ r e P R p))
    | ex C fs μ =>
      cases e
      exact i _ _ (h _ rfl _ _ p)
theorem sat_ok {α : Type} {a : α} {μ : Mu} {w : (α → Mu → Prop) → PX → Prop} (h : ∀ P R, P a μ → w P R) : Sat ga (some (.ok a μ)) w := fun r e P R p => by
  cases e
  exact h P R p
theorem sat_none {α : Type} {w : (α → Mu → Prop) → PX → Prop} : Sat ga none w := fun r e => by cases e
theorem sat_ite {α : Type} {c : Prop} [Decidable c] {x y : M α} {w : (α → Mu → Prop) → PX → Prop} (h : c → Sat ga x w) (h' : ¬ c → Sat ga y w) : Sat ga (if c then x else y) w := by
  by_cases q : c
  · rw [if_pos q]; exact h q
  · rw [if_neg q]; exact h' q
theorem sat_if {α : Type} {c : Prop} [Decidable c] {x : M α} {w : (α → Mu → Prop) → PX → Prop} (h : c → Sat ga x w) : Sat ga (if c then x else none) w := sat_ite h fun _ => sat_none
theorem Sat.imp {α : Type} {x : M α} {w w' : (α → Mu → Prop) → PX → Prop} (h : Sat ga x w) (i : ∀ P R, w P R → w' P R) : Sat ga x w' := fun r e P R p => i P R (h r e P R p)

abbrev FE := Rho → Mu → M W
abbrev FT := Rho → Mu → M Bool
abbrev FA := Rho → Mu → M (List W)
abbrev F2 := W → W → Mu → M W
abbrev F1 := W → Mu → M W
abbrev FC := List W → Mu → M W
def RunE (ga : Str → Addr) (d : DE) (f : FE) : Prop := ∀ ρ μ, Sat ga (f ρ μ) (d ρ μ)
def RunT (ga : Str → Addr) (d : DTe) (f : FT) : Prop := ∀ ρ μ, Sat ga (f ρ μ) (d ρ μ)
def RunA (ga : Str → Addr) (d : DAr) (f : FA) : Prop := ∀ ρ μ, Sat ga (f ρ μ) (d ρ μ)
def RunO (ga : Str → Addr) (d : DO) (f : Rho → Mu → M (Option Int)) : Prop := ∀ ρ μ, Sat ga (f ρ μ) (d ρ μ)
def Run2 (ga : Str → Addr) (d : D2) (f : F2) : Prop := ∀ x y μ, Sat ga (f x y μ) (d x y μ)
def Run1 (ga : Str → Addr) (d : D1) (f : F1) : Prop := ∀ x μ, Sat ga (f x μ) (d x μ)
def RunC (ga : Str → Addr) (d : DC) (f : FC) : Prop := ∀ xs μ, Sat ga (f xs μ) (d xs μ)

/-! ### expressions -/
def fVar (i : Nat) : FE := fun ρ μ => match ρ[i]? with
  | some (some x) => some (.ok x μ)
  | _ => none
theorem run_var {i : Nat} : RunE ga (dVar i) (fVar i) := fun ρ μ => by
  unfold fVar
  split
  · rename_i x e
    exact sat_ok fun P R p => ⟨x, e, p⟩
  · exact sat_none
def fC (x : V) : FE := fun _ μ => some (.ok (.d (.v x)) μ)
theorem run_c {x : V} : RunE ga (dC x) (fC x) := fun ρ μ => sat_ok fun P R p => p
def fOp (o : F2) (fa fb : FE) : FE := fun ρ μ => bd (fa ρ μ) fun x μ1 => bd (fb ρ μ1) fun y μ2 => o x y μ2
theorem run_op {dr : D2} {da db : DE} {o : F2} {fa fb : FE} (h : Run2 ga dr o) (ha : RunE ga da fa) (hb : RunE ga db fb) : RunE ga (dOp dr da db) (fOp o fa fb) := fun ρ μ => sat_bd (ha ρ μ) (fun x μ1 => sat_bd (hb ρ μ1) (fun y μ2 => h x y μ2) fun _ _ p => p) fun _ _ p => p
def fUn (o : F1) (fa : FE) : FE := fun ρ μ => bd (fa ρ μ) fun x μ1 => o x μ1
theorem run_un {dr : D1} {da : DE} {o : F1} {fa : FE} (h : Run1 ga dr o) (ha : RunE ga da fa) : RunE ga (dUn dr da) (fUn o fa) := fun ρ μ => sat_bd (ha ρ μ) (fun x μ1 => h x μ1) fun _ _ p => p
/-- two ints -/
def oI (c : Int → Int → Bool) (f : Int → Int → V) : F2 := fun x y μ => match x, y with
  | .d (.v (.int i)), .d (.v (.int j)) => if c i j = true then some (.ok (.d (.v (f i j))) μ) else none
  | _, _ => none
theorem run_I {C : Int → Int → Prop} {c : Int → Int → Bool} {f : Int → Int → V} (h : ∀ i j, c i j = true → C i j) : Run2 ga (dI C f) (oI c f) := fun x y μ => by
  unfold oI
  split
  · rename_i i j
    exact sat_if fun q => sat_ok fun P R p => ⟨i, j, rfl, rfl, h i j q, p⟩
  · exact sat_none
def oI0 (f : Int → Int → V) : F2 := fun x y μ => match x, y with
  | .d (.v (.int i)), .d (.v (.int j)) => some (.ok (.d (.v (f i j))) μ)
  | _, _ => none
theorem run_I0 {f : Int → Int → V} : Run2 ga (dI0 f) (oI0 f) := fun x y μ => by
  unfold oI0
  split
  · rename_i i j
    exact sat_ok fun P R p => ⟨i, j, rfl, rfl, p⟩
  · exact sat_none
/-- comparisons that a checker reads off cheaply, whatever stands there -/
def leI : Int → Int → Bool
  | .ofNat a, .ofNat b => Nat.ble a b
  | .negSucc _, .ofNat _ => true
  | .ofNat _, .negSucc _ => false
  | .negSucc a, .negSucc b => Nat.ble b a
theorem leI_iff {i j : Int} : leI i j = true ↔ i ≤ j := by
  cases i with
  | ofNat a =>
    cases j with
    | ofNat b => simp only [leI, Nat.ble_eq, Int.ofNat_eq_natCast]; omega
    | negSucc b => simp only [leI, Int.ofNat_eq_natCast]; simp; omega
  | negSucc a =>
    cases j with
    | ofNat b => simp only [leI, Int.ofNat_eq_natCast]; simp; omega
    | negSucc b => simp only [leI, Nat.ble_eq]; omega
def ltI (i j : Int) : Bool := !leI j i
theorem ltI_iff {i j : Int} : ltI i j = true ↔ i < j := by
  unfold ltI
  rw [Bool.not_eq_true', ← Bool.not_eq_true, leI_iff]
  omega
def cMul (i j : Int) : Bool := Nat.blt i.natAbs 18446744073709551616 || (Nat.blt j.natAbs 18446744073709551616 || Nat.blt (i.natAbs.log2 + j.natAbs.log2) 1000000)
def cDiv (_ j : Int) : Bool := ltI 0 j && Nat.blt j.natAbs.log2 9000
def cPos (_ j : Int) : Bool := ltI 0 j
def cPow (i j : Int) : Bool := leI 0 j && (leI j 1000000 && Nat.blt i.natAbs 18446744073709551616)
theorem blt_iff {a b : Nat} : Nat.blt a b = true ↔ a < b := by unfold Nat.blt; rw [Nat.ble_eq]; omega
def oMul : F2 := oI cMul fun i j => .int (i * j)
def oDiv : F2 := oI cDiv fun i j => .int (i / j)
def oMod : F2 := oI cPos fun i j => .int (i % j)
def oPow : F2 := oI cPow fun i j => .int (i ^ j.toNat)
def oSub : F2 := oI0 fun i j => .int (i - j)
theorem run_mul : Run2 ga (dI (fun i j => CMul i j ∨ CMulW i j) fun i j => .int (i * j)) oMul := run_I fun i j h => by
  unfold cMul at h
  rw [Bool.or_eq_true, Bool.or_eq_true, blt_iff, blt_iff, blt_iff] at h
  rcases h with h | h | h
  · exact .inl (.inl ⟨by omega, by omega⟩)
  · exact .inl (.inr ⟨by omega, by omega⟩)
  · exact .inr h
theorem run_div : Run2 ga (dI CDivW fun i j => .int (i / j)) oDiv := run_I fun i j h => by
  unfold cDiv at h
  rw [Bool.and_eq_true, ltI_iff, blt_iff] at h
  exact h
theorem run_mod : Run2 ga (dI (fun _ j => 0 < j) fun i j => .int (i % j)) oMod := run_I fun i j h => ltI_iff.mp h
theorem cMul_l {i j : Int} (h : -18446744073709551616 < i) (h' : i < 18446744073709551616) : cMul i j = true := by
  unfold cMul
  rw [blt_iff.mpr (by omega : i.natAbs < 18446744073709551616), Bool.true_or]
theorem cMul_r {i j : Int} (h : -18446744073709551616 < j) (h' : j < 18446744073709551616) : cMul i j = true := by
  unfold cMul
  rw [blt_iff.mpr (by omega : j.natAbs < 18446744073709551616), Bool.true_or, Bool.or_true]
theorem cDiv_r {i j : Int} (h : 0 < j) (h' : j < 18446744073709551616) : cDiv i j = true := by
  unfold cDiv
  have : j.natAbs.log2 < 64 := (Nat.log2_lt (by omega)).mpr (by omega)
  rw [ltI_iff.mpr h, Bool.true_and, blt_iff]
  omega
theorem cPos_r {i j : Int} (h : 0 < j) : cPos i j = true := ltI_iff.mpr h
theorem cPow_r {i j : Int} (h : 0 ≤ j) (h' : j ≤ 1000000) (h0 : -18446744073709551616 < i) (h1 : i < 18446744073709551616) : cPow i j = true := by
  unfold cPow
  rw [leI_iff.mpr h, leI_iff.mpr h', blt_iff.mpr (by omega : i.natAbs < 18446744073709551616)]
  rfl
theorem run_pow : Run2 ga (dI CPow fun i j => .int (i ^ j.toNat)) oPow := run_I fun i j h => by
  unfold cPow at h
  rw [Bool.and_eq_true, Bool.and_eq_true, leI_iff, leI_iff, blt_iff] at h
  exact h
/-- == and != of immediate values -/
def oEq : F2 := fun x y μ => match x, y with
  | .d (.v u), .d (.v v) => if scal u v = true then some (.ok (wb (decide (u = v))) μ) else none
  | _, _ => none
def oNe : F2 := fun x y μ => match x, y with
  | .d (.v u), .d (.v v) => if scal u v = true then some (.ok (wb (!decide (u = v))) μ) else none
  | _, _ => none
theorem run_eq : Run2 ga dEq oEq := fun x y μ => by
  unfold oEq
  split
  · rename_i u v
    exact sat_if fun q => sat_ok fun P R p => ⟨u, v, rfl, rfl, q, p⟩
  · exact sat_none
theorem run_ne : Run2 ga dNe oNe := fun x y μ => by
  unfold oNe
  split
  · rename_i u v
    exact sat_if fun q => sat_ok fun P R p => ⟨u, v, rfl, rfl, q, p⟩
  · exact sat_none
def newL (mt : Bool) (ds : List D) (μ : Mu) : M W := if mt = true then some (.ok (.m μ.length) (μ ++ [.lst ds])) else some (.ok (.d (.lst ds)) μ)
theorem run_newL {mt : Bool} {ds : List D} {μ : Mu} : Sat ga (newL mt ds μ) (fun P _ => newLst ds μ P) := by
  unfold newL
  exact sat_ite (fun _ => sat_ok fun P R p => .inr p) (fun _ => sat_ok fun P R p => .inl p)
def smallB (n : Nat) : Bool := Nat.ble n 1000000
theorem smallB_ok {n : Nat} (h : smallB n = true) : small n := Nat.le_of_ble_eq_true h
theorem smallB_le {n : Nat} (h : n ≤ 1000000) : smallB n = true := Nat.ble_eq.mpr h
def oAdd (mt : Bool) : F2 := fun x y μ => match x, y with
  | .d (.v (.int i)), .d (.v (.int j)) => some (.ok (wi (i + j)) μ)
  | .d (.v (.str i)), .d (.v (.str j)) => if smallB (i.length + j.length) = true then some (.ok (ws (i ++ j)) μ) else none
  | .d (.tup as), .d (.tup bs) => if smallB (as.length + bs.length) = true then some (.ok (.d (.tup (as ++ bs))) μ) else none
  | x, y => match lstOf μ x, lstOf μ y with
    | some as, some bs => if smallB (as.length + bs.length) = true then newL mt (as ++ bs) μ else none
    | _, _ => none
theorem run_add {mt : Bool} : Run2 ga dAdd (oAdd mt) := fun x y μ => by
  unfold oAdd
  split
  · rename_i i j
    exact sat_ok fun P R p => .inl ⟨i, j, rfl, rfl, p⟩
  · rename_i i j
    exact sat_if fun q => sat_ok fun P R p => .inr (.inr (.inr ⟨i, j, rfl, rfl, smallB_ok q, p⟩))
  · rename_i as bs
    exact sat_if fun q => sat_ok fun P R p => .inr (.inr (.inl ⟨as, bs, rfl, rfl, smallB_ok q, p⟩))
  · split
    · rename_i as bs e1 e2
      exact sat_if fun q => run_newL.imp fun P R p => .inr (.inl ⟨as, bs, e1, e2, smallB_ok q, p⟩)
    · exact sat_none
def fTest (f : FE) : FT := fun ρ μ => bd (f ρ μ) fun x μ1 => match x with
  | .d (.v (.bl k)) => some (.ok k μ1)
  | _ => none
theorem run_test {d : DE} {f : FE} (h : RunE ga d f) : RunT ga (dTest d) (fTest f) := fun ρ μ => sat_bd (h ρ μ) (fun x μ1 => (show Sat ga _ (fun P R => ∃ k, x = wb k ∧ P k μ1) by
    split
    · exact sat_ok fun P R p => ⟨_, rfl, p⟩
    · exact sat_none)) fun _ _ p => p
def fAnd (f g : FT) : FT := fun ρ μ => bd (f ρ μ) fun c μ1 => if c = true then g ρ μ1 else some (.ok false μ1)
theorem run_and {d e : DTe} {f g : FT} (h : RunT ga d f) (h' : RunT ga e g) : RunT ga (dAnd d e) (fAnd f g) := fun ρ μ => sat_bd (h ρ μ) (fun c μ1 => (show Sat ga _ (fun P R => (c = true → e ρ μ1 P R) ∧ (c = false → P false μ1)) from sat_ite
    (fun q => (h' ρ μ1).imp fun P R p => ⟨fun _ => p, fun z => by rw [q] at z; cases z⟩) fun q => sat_ok fun P R p => ⟨fun z => absurd z q, fun _ => p⟩)) fun _ _ p => p
def fOr (f g : FT) : FT := fun ρ μ => bd (f ρ μ) fun c μ1 => if c = true then some (.ok true μ1) else g ρ μ1
theorem run_or {d e : DTe} {f g : FT} (h : RunT ga d f) (h' : RunT ga e g) : RunT ga (dOrT d e) (fOr f g) := fun ρ μ => sat_bd (h ρ μ) (fun c μ1 => (show Sat ga _ (fun P R => (c = true → P true μ1) ∧ (c = false → e ρ μ1 P R)) from sat_ite
    (fun q => sat_ok fun P R p => ⟨fun _ => p, fun z => by rw [q] at z; cases z⟩) fun q => (h' ρ μ1).imp fun P R p => ⟨fun z => absurd z q, fun _ => p⟩)) fun _ _ p => p
def fNot (f : FT) : FT := fun ρ μ => bd (f ρ μ) fun c μ1 => some (.ok (!c) μ1)
theorem run_not {d : DTe} {f : FT} (h : RunT ga d f) : RunT ga (dNot d) (fNot f) := fun ρ μ => sat_bd (h ρ μ) (fun c μ1 => (show Sat ga _ (fun P R => P (!c) μ1) from sat_ok fun P R p => p)) fun _ _ p => p
def asB {α : Type} (x : W) (k : Bool → M α) : M α := match x with
  | .d (.v (.bl c)) => k c
  | _ => none
theorem sat_asB {α : Type} {x : W} {k : Bool → M α} {w : Bool → (α → Mu → Prop) → PX → Prop} (h : ∀ c, x = wb c → Sat ga (k c) (w c)) : Sat ga (asB x k) (fun P R => ∃ c, x = wb c ∧ w c P R) := by
  unfold asB
  split
  · rename_i c
    exact (h c rfl).imp fun P R p => ⟨c, rfl, p⟩
  · exact sat_none
def fAndV (f g : FE) : FE := fun ρ μ => bd (f ρ μ) fun x μ1 => asB x fun c => if c = true then g ρ μ1 else some (.ok (wb false) μ1)
theorem run_andV {d e : DE} {f g : FE} (h : RunE ga d f) (h' : RunE ga e g) : RunE ga (dAndV d e) (fAndV f g) := fun ρ μ => sat_bd (h ρ μ) (fun x μ1 => sat_asB fun c _ => (show Sat ga _ (fun P R => (c = true → e ρ μ1 P R) ∧ (c = false → P (wb false) μ1)) from sat_ite
    (fun q => (h' ρ μ1).imp fun P R p => ⟨fun _ => p, fun z => by rw [q] at z; cases z⟩) fun q => sat_ok fun P R p => ⟨fun z => absurd z q, fun _ => p⟩)) fun _ _ p => p
def fOrV (f g : FE) : FE := fun ρ μ => bd (f ρ μ) fun x μ1 => asB x fun c => if c = true then some (.ok (wb true) μ1) else g ρ μ1
theorem run_orV {d e : DE} {f g : FE} (h : RunE ga d f) (h' : RunE ga e g) : RunE ga (dOrV d e) (fOrV f g) := fun ρ μ => sat_bd (h ρ μ) (fun x μ1 => sat_asB fun c _ => (show Sat ga _ (fun P R => (c = true → P (wb true) μ1) ∧ (c = false → e ρ μ1 P R)) from sat_ite
    (fun q => sat_ok fun P R p => ⟨fun _ => p, fun z => by rw [q] at z; cases z⟩) fun q => (h' ρ μ1).imp fun P R p => ⟨fun z => absurd z q, fun _ => p⟩)) fun _ _ p => p
def fNotV (f : FE) : FE := fun ρ μ => bd (f ρ μ) fun x μ1 => asB x fun c => some (.ok (wb (!c)) μ1)
theorem run_notV {d : DE} {f : FE} (h : RunE ga d f) : RunE ga (dNotV d) (fNotV f) := fun ρ μ => sat_bd (h ρ μ) (fun x μ1 => sat_asB fun c _ => (show Sat ga _ (fun P R => P (wb (!c)) μ1) from sat_ok fun P R p => p)) fun _ _ p => p
def fIfE (t : FT) (f g : FE) : FE := fun ρ μ => bd (t ρ μ) fun c μ1 => if c = true then f ρ μ1 else g ρ μ1
theorem run_ifE {t : DTe} {d e : DE} {ft : FT} {f g : FE} (ht : RunT ga t ft) (h : RunE ga d f) (h' : RunE ga e g) : RunE ga (dIf t d e) (fIfE ft f g) := fun ρ μ => sat_bd (ht ρ μ) (fun c μ1 => (show Sat ga _ (fun P R => (c = true → d ρ μ1 P R) ∧ (c = false → e ρ μ1 P R)) from sat_ite
    (fun q => (h ρ μ1).imp fun P R p => ⟨fun _ => p, fun z => by rw [q] at z; cases z⟩) fun q => (h' ρ μ1).imp fun P R p => ⟨fun z => absurd z q, fun _ => p⟩)) fun _ _ p => p
def fNil : FA := fun _ μ => some (.ok [] μ)
def fCons (f : FE) (g : FA) : FA := fun ρ μ => bd (f ρ μ) fun x μ1 => bd (g ρ μ1) fun xs μ2 => some (.ok (x :: xs) μ2)
theorem run_nil : RunA ga dNil fNil := fun ρ μ => sat_ok fun P R p => p
theorem run_cons {d : DE} {e : DAr} {f : FE} {g : FA} (h : RunE ga d f) (h' : RunA ga e g) : RunA ga (dCons d e) (fCons f g) := fun ρ μ => sat_bd (h ρ μ) (fun x μ1 => sat_bd (h' ρ μ1) (fun xs μ2 => (show Sat ga _ (fun P R => P (x :: xs) μ2) from sat_ok fun P R p => p)) fun _ _ p => p) fun _ _ p => p
def fTup (f : FA) : FE := fun ρ μ => bd (f ρ μ) fun xs μ1 => if smallB xs.length = true then (match alls xs with
  | some ds => some (.ok (.d (.tup ds)) μ1)
  | none => match allb xs with
    | some ds => some (.ok (.b (.tup ds)) μ1)
    | none => none) else none
theorem run_tup {d : DAr} {f : FA} (h : RunA ga d f) : RunE ga (dTup d) (fTup f) := fun ρ μ => sat_bd (h ρ μ) (fun xs μ1 => (show Sat ga _ (fun P R => small xs.length ∧ Data xs (fun ds => P (.d (.tup ds)) μ1) (fun ds => P (.b (.tup ds)) μ1)) from sat_if fun q => by
    split
    · rename_i ds e
      exact sat_ok fun P R p => ⟨smallB_ok q, by unfold DL.Data; rw [e]; exact p⟩
    · rename_i e
      split
      · rename_i ds e'
        exact sat_ok fun P R p => ⟨smallB_ok q, by unfold DL.Data; rw [e]; exact ⟨ds, e', p⟩⟩
      · exact sat_none)) fun _ _ p => p
def fLst (mt : Bool) (f : FA) : FE := fun ρ μ => bd (f ρ μ) fun xs μ1 => if smallB xs.length = true then (match alls xs with
  | some ds => newL mt ds μ1
  | none => match allb xs with
    | some ds => some (.ok (.b (.lst ds)) μ1)
    | none => none) else none
theorem run_lst {mt : Bool} {d : DAr} {f : FA} (h : RunA ga d f) : RunE ga (dLst d) (fLst mt f) := fun ρ μ => sat_bd (h ρ μ) (fun xs μ1 => (show Sat ga _ (fun P R => small xs.length ∧ Data xs (fun ds => newLst ds μ1 P) (fun ds => P (.b (.lst ds)) μ1)) from sat_if fun q => by
    split
    · rename_i ds e
      exact run_newL.imp fun P R p => ⟨smallB_ok q, by unfold DL.Data; rw [e]; exact p⟩
    · rename_i e
      split
      · rename_i ds e'
        exact sat_ok fun P R p => ⟨smallB_ok q, by unfold DL.Data; rw [e]; exact ⟨ds, e', p⟩⟩
      · exact sat_none)) fun _ _ p => p
def oIx : F2 := fun x y μ => match y with
  | .d (.v (.int i)) => (match seqOf μ x with
    | some (ds, l) => (match atI ds i with
      | some d => some (.ok (item l d) μ)
      | none => none)
    | none => match x with
      | .d (.v (.str z)) => if smallB z.length = true then (match atI z.cps.toList i with
        | some c => some (.ok (ws ⟨#[c]⟩) μ)
        | none => none) else none
      | _ => none)
  | _ => none
theorem run_ix : Run2 ga dIx oIx := fun x y μ => by
  unfold oIx
  split
  · rename_i i
    split
    · rename_i ds l e
      split
      · rename_i d e'
        exact sat_ok fun P R p => ⟨i, rfl, .inl ⟨ds, l, d, e, e', p⟩⟩
      · exact sat_none
    · split
      · refine sat_if fun q => ?_
        split
        · rename_i c e'
          exact sat_ok fun P R p => ⟨i, rfl, .inr ⟨_, c, rfl, small_ok (smallB_ok q), e', p⟩⟩
        · exact sat_none
      · exact sat_none
  · exact sat_none
def fNoPart : Rho → Mu → M (Option Int) := fun _ μ => some (.ok none μ)
def fPart (f : FE) : Rho → Mu → M (Option Int) := fun ρ μ => bd (f ρ μ) fun x μ1 => match x with
  | .d (.v (.int i)) => some (.ok (some i) μ1)
  | _ => none
theorem run_noPart : RunO ga dNoPart fNoPart := fun ρ μ => sat_ok fun P R p => p
theorem run_part {d : DE} {f : FE} (h : RunE ga d f) : RunO ga (dPart d) (fPart f) := fun ρ μ => sat_bd (h ρ μ) (fun x μ1 => (show Sat ga _ (fun P R => ∃ i, x = wi i ∧ P (some i) μ1) by
    split
    · exact sat_ok fun P R p => ⟨_, rfl, p⟩
    · exact sat_none)) fun _ _ p => p
def fSl (mt : Bool) (f : FE) (fl fh : Rho → Mu → M (Option Int)) : FE := fun ρ μ => bd (f ρ μ) fun x μ1 => bd (fl ρ μ1) fun lo μ2 => bd (fh ρ μ2) fun hi μ3 => match lstOf μ3 x with
  | some ds => newL mt (cutD ds lo hi) μ3
  | none => match x with
    | .d (.tup ds) => some (.ok (.d (.tup (cutD ds lo hi))) μ3)
    | .d (.v (.str z)) => if smallB z.length = true then some (.ok (ws (cutS z lo hi)) μ3) else none
    | _ => none
theorem run_sl {mt : Bool} {dx : DE} {dl dh : DO} {f : FE} {fl fh : Rho → Mu → M (Option Int)} (h : RunE ga dx f) (hl : RunO ga dl fl) (hh : RunO ga dh fh) : RunE ga (dSl dx dl dh) (fSl mt f fl fh) := fun ρ μ => sat_bd (h ρ μ) (fun x μ1 => sat_bd (hl ρ μ1) (fun lo μ2 => sat_bd (hh ρ μ2) (fun hi μ3 => (show Sat ga _ (fun P R => (∃ ds, lstOf μ3 x = some ds ∧ newLst (cutD ds lo hi) μ3 P) ∨ (∃ ds, x = .d (.tup ds) ∧ P (.d (.tup (cutD ds lo hi))) μ3) ∨ (∃ z, x = ws z ∧ z.length ≤ sizeLine ∧ P (ws (cutS z lo hi)) μ3)) by
    split
    · rename_i ds e
      exact run_newL.imp fun P R p => .inl ⟨ds, e, p⟩
    · split
      · exact sat_ok fun P R p => .inr (.inl ⟨_, rfl, p⟩)
      · exact sat_if fun q => sat_ok fun P R p => .inr (.inr ⟨_, rfl, small_ok (smallB_ok q), p⟩)
      · exact sat_none)) fun _ _ p => p) fun _ _ p => p) fun _ _ p => p
end
end FR

set_option Elab.async false
set_option linter.all false
set_option maxRecDepth 100000
set_option maxHeartbeats 4000000
/-! FR, part two: built-in calls, is, statements, loops. -/
namespace FR
open PySem L2 Evl DL
section
variable {ga : Str → Addr}

def isN (c : V) : W → Bool
  | .d (.v u) => decide (u = c)
  | _ => false
/-- x is None, x is not None, x is True -/
def oIsN : F2 := fun x y μ => match y, x with
  | .d (.v .non), .b (.v _) => none
  | .d (.v .non), x => some (.ok (wb (isN .non x)) μ)
  | _, _ => none
def oNotN : F2 := fun x y μ => match y, x with
  | .d (.v .non), .b (.v _) => none
  | .d (.v .non), x => some (.ok (wb (!isN .non x)) μ)
  | _, _ => none
def oIsB : F2 := fun x y μ => match y, x with
  | .d (.v (.bl _)), .b (.v _) => none
  | .d (.v (.bl c)), x => some (.ok (wb (isN (.bl c) x)) μ)
  | _, _ => none
theorem isN_cases (c : V) (x : W) (h : ∀ u, x ≠ .b (.v u)) : (∃ u, x = .d (.v u) ∧ isN c x = decide (u = c)) ∨ ((∀ u, x ≠ .d (.v u)) ∧ (∀ u, x ≠ .b (.v u)) ∧ isN c x = false) := by
  by_cases q : ∃ u, x = .d (.v u)
  · obtain ⟨u, rfl⟩ := q
    exact .inl ⟨u, rfl, rfl⟩
  · refine .inr ⟨fun u e => q ⟨u, e⟩, h, ?_⟩
    unfold isN
    split
    · exact absurd ⟨_, rfl⟩ q
    · rfl
theorem run_isN : Run2 ga dIsN oIsN := fun x y μ => by
  unfold oIsN
  split
  · exact sat_none
  · rename_i h
    exact sat_ok fun P R p => ⟨rfl, _, isN_cases .non x (fun u e => h u e), p⟩
  · exact sat_none
theorem run_notN : Run2 ga dNotN oNotN := fun x y μ => by
  unfold oNotN
  split
  · exact sat_none
  · rename_i h
    refine sat_ok fun P R p => ⟨rfl, _, ?_, p⟩
    rcases isN_cases .non x (fun u e => h u e) with ⟨u, e, q⟩ | ⟨h1, h2, q⟩
    · exact .inl ⟨u, e, by rw [q]⟩
    · exact .inr ⟨h1, h2, by rw [q]; rfl⟩
  · exact sat_none
theorem run_isB : Run2 ga dIsB oIsB := fun x y μ => by
  unfold oIsB
  split
  · exact sat_none
  · rename_i c h
    exact sat_ok fun P R p => ⟨c, rfl, _, isN_cases (.bl c) x (fun u e => h u e), p⟩
  · exact sat_none
/-- == and != of data -/
def oEqD : F2 := fun x y μ => match pyW μ x, pyW μ y with
  | some p, some q => if (SeqAt.shaped p && SeqAt.shaped q) = true then some (.ok (wb (PyData.eqv p q)) μ) else none
  | _, _ => none
def oNeD : F2 := fun x y μ => match pyW μ x, pyW μ y with
  | some p, some q => if (SeqAt.shaped p && SeqAt.shaped q) = true then some (.ok (wb (!PyData.eqv p q)) μ) else none
  | _, _ => none
theorem run_eqD : Run2 ga dEqD oEqD := fun x y μ => by
  unfold oEqD
  split
  · rename_i p q e1 e2
    exact sat_if fun c => sat_ok fun P R z => ⟨p, q, e1, e2, (Bool.and_eq_true _ _ ▸ c).1, (Bool.and_eq_true _ _ ▸ c).2, z⟩
  · exact sat_none
theorem run_neD : Run2 ga dNeD oNeD := fun x y μ => by
  unfold oNeD
  split
  · rename_i p q e1 e2
    exact sat_if fun c => sat_ok fun P R z => ⟨p, q, e1, e2, (Bool.and_eq_true _ _ ▸ c).1, (Bool.and_eq_true _ _ ▸ c).2, z⟩
  · exact sat_none
def o1U (g : Int → V) : F1 := fun x μ => match x with
  | .d (.v (.int i)) => some (.ok (.d (.v (g i))) μ)
  | _ => none
theorem run_U {g : Int → V} : Run1 ga (dU g) (o1U g) := fun x μ => by
  unfold o1U
  split
  · exact sat_ok fun P R p => ⟨_, rfl, p⟩
  · exact sat_none
def fTru (f : FE) : FT := fun ρ μ => bd (f ρ μ) fun x μ1 => match truW μ1 x with
  | some k => some (.ok k μ1)
  | none => none
def fChain (o o' : F2) (fa fb fc : FE) : FE := fun ρ μ => bd (fa ρ μ) fun x μ1 => bd (fb ρ μ1) fun y μ2 => bd (o x y μ2) fun z μ3 => asB z fun k => if k = true then bd (fc ρ μ3) (fun u μ4 => o' y u μ4) else some (.ok (wb false) μ3)
theorem run_chain {r r' : D2} {da db dc : DE} {o o' : F2} {fa fb fc : FE} (hr : Run2 ga r o) (hr' : Run2 ga r' o') (ha : RunE ga da fa) (hb : RunE ga db fb) (hc : RunE ga dc fc) : RunE ga (dChain r r' da db dc) (fChain o o' fa fb fc) := fun ρ μ =>
  sat_bd (ha ρ μ) (fun x μ1 => sat_bd (hb ρ μ1) (fun y μ2 => sat_bd (hr x y μ2) (fun z μ3 => sat_asB fun k _ => (show Sat ga _ (fun P R => (k = true → dc ρ μ3 (fun u μ4 => r' y u μ4 P R) R) ∧ (k = false → P (wb false) μ3)) from sat_ite
    (fun q => (sat_bd (hc ρ μ3) (fun u μ4 => hr' y u μ4) (fun _ _ p => p)).imp fun P R p => ⟨fun _ => p, fun z => by rw [q] at z; cases z⟩) fun q => sat_ok fun P R p => ⟨fun z => absurd z q, fun _ => p⟩)) fun _ _ p => p) fun _ _ p => p) fun _ _ p => p

/-! ### built-in calls -/
def fCB (c : FC) (f : FA) : FE := fun ρ μ => bd (f ρ μ) fun xs μ1 => c xs μ1
theorem run_cb {dr : DC} {da : DAr} {c : FC} {f : FA} (h : RunC ga dr c) (ha : RunA ga da f) : RunE ga (dCB dr da) (fCB c f) := fun ρ μ => sat_bd (ha ρ μ) (fun xs μ1 => h xs μ1) fun _ _ p => p
def cLen : FC := fun xs μ => match xs with
  | [x] => (match seqOf μ x with
    | some (ds, _) => some (.ok (wi ds.length) μ)
    | none => match x with
      | .d (.v (.str z)) => if smallB z.length = true then some (.ok (wi z.length) μ) else none
      | _ => none)
  | _ => none
theorem run_len : RunC ga dLen cLen := fun xs μ => by
  unfold cLen
  split
  · rename_i x
    split
    · rename_i ds l e
      exact sat_ok fun P R p => ⟨x, rfl, .inl ⟨ds, l, e, p⟩⟩
    · split
      · exact sat_if fun q => sat_ok fun P R p => ⟨_, rfl, .inr ⟨_, rfl, small_ok (smallB_ok q), p⟩⟩
      · exact sat_none
  · exact sat_none
def cList (mt : Bool) : FC := fun xs μ => match xs with
  | [x] => (match seqOf μ x with
    | some (ds, l) => if (!l || flats ds) = true then newL mt ds μ else some (.ok (.b (.lst ds)) μ)
    | none => none)
  | _ => none
theorem run_list {mt : Bool} : RunC ga dList (cList mt) := fun xs μ => by
  unfold cList
  split
  · rename_i x
    split
    · rename_i ds l e
      have c : ((!l || flats ds) = true) ↔ (l = false ∨ flats ds = true) := by cases l <;> simp
      exact sat_ite (fun q => run_newL.imp fun P R p => ⟨x, ds, l, rfl, e, fun _ => p, fun z => absurd (c.mp q) z⟩) fun q => sat_ok fun P R p => ⟨x, ds, l, rfl, e, fun z => absurd (c.mpr z) q, fun _ => p⟩
    · exact sat_none
  · exact sat_none
def cTuple : FC := fun xs μ => match xs with
  | [.d (.tup ds)] => some (.ok (.d (.tup ds)) μ)
  | [.b (.tup ds)] => some (.ok (.b (.tup ds)) μ)
  | [.b (.lst ds)] => if flats ds = true then some (.ok (.d (.tup ds)) μ) else some (.ok (.b (.tup ds)) μ)
  | [x] => (match lstOf μ x with
    | some ds => some (.ok (.d (.tup ds)) μ)
    | none => none)
  | _ => none
theorem run_tuple : RunC ga dTuple cTuple := fun xs μ => by
  unfold cTuple
  split
  · exact sat_ok fun P R p => ⟨_, rfl, .inl ⟨_, .inl rfl, p⟩⟩
  · exact sat_ok fun P R p => ⟨_, rfl, .inr (.inl ⟨_, rfl, p⟩)⟩
  · exact sat_ite (fun q => sat_ok fun P R p => ⟨_, rfl, .inr (.inr ⟨_, rfl, .inl ⟨q, p⟩⟩)⟩) fun _ => sat_ok fun P R p => ⟨_, rfl, .inr (.inr ⟨_, rfl, .inr p⟩)⟩
  · split
    · rename_i e
      exact sat_ok fun P R p => ⟨_, rfl, .inl ⟨_, .inr e, p⟩⟩
    · exact sat_none
  · exact sat_none
def cInt : FC := fun xs μ => match xs with
  | [.d (.v (.int i))] => some (.ok (wi i) μ)
  | _ => none
theorem run_int : RunC ga dInt cInt := fun xs μ => by
  unfold cInt
  split
  · exact sat_ok fun P R p => ⟨_, rfl, p⟩
  · exact sat_none
def cAbs : FC := fun xs μ => match xs with
  | [.d (.v (.int i))] => some (.ok (wi (if i < 0 then -i else i)) μ)
  | _ => none
theorem run_abs : RunC ga dAbs cAbs := fun xs μ => by
  unfold cAbs
  split
  · exact sat_ok fun P R p => ⟨_, rfl, p⟩
  · exact sat_none
def cMin2 : FC := fun xs μ => match xs with
  | [.d (.v (.int i)), .d (.v (.int j))] => some (.ok (wi (if j < i then j else i)) μ)
  | _ => none
theorem run_min2 : RunC ga dMin2 cMin2 := fun xs μ => by
  unfold cMin2
  split
  · exact sat_ok fun P R p => ⟨_, _, rfl, p⟩
  · exact sat_none
/-- isinstance with a built-in type -/
def kitT (a b : String) : Option Bool :=
  if b = "int" then (if a = "int" then some true else if a = "bool" then some true else if a = "str" ∨ a = "tuple" ∨ a = "list" ∨ a = "NoneType" then some false else none)
  else if b = "bool" ∨ b = "str" ∨ b = "tuple" ∨ b = "list" then (if a = b then some true else if a = "int" ∨ a = "bool" ∨ a = "str" ∨ a = "tuple" ∨ a = "list" ∨ a = "NoneType" then some false else none)
  else none
theorem kitT_ok {a b : String} {r : Bool} (h : kitT a b = some r) : kitB a b = some r := by
  have key : ∀ a ∈ ["int", "bool", "str", "tuple", "list", "NoneType"], ∀ b ∈ ["int", "bool", "str", "tuple", "list"], kitT a b = kitB a b := by decide +kernel
  by_cases hb : b ∈ ["int", "bool", "str", "tuple", "list"]
  · by_cases ha : a ∈ ["int", "bool", "str", "tuple", "list", "NoneType"]
    · rw [← key a ha b hb]
      exact h
    · simp only [List.mem_cons, List.not_mem_nil, or_false, not_or] at ha
      obtain ⟨h1, h2, h3, h4, h5, h6⟩ := ha
      exfalso
      simp only [List.mem_cons, List.not_mem_nil, or_false] at hb
      unfold kitT at h
      rcases hb with rfl | rfl | rfl | rfl | rfl <;> simp [h1, h2, h3, h4, h5, h6] at h
  · simp only [List.mem_cons, List.not_mem_nil, or_false, not_or] at hb
    unfold kitT at h
    simp [hb.1, hb.2.1, hb.2.2.1, hb.2.2.2.1, hb.2.2.2.2] at h
theorem kt_int_int : kitT "int" "int" = some true := by decide
theorem kt_int_bool : kitT "int" "bool" = some false := by decide
theorem kt_int_str : kitT "int" "str" = some false := by decide
theorem kt_int_tuple : kitT "int" "tuple" = some false := by decide
theorem kt_int_list : kitT "int" "list" = some false := by decide
theorem kt_bool_int : kitT "bool" "int" = some true := by decide
theorem kt_bool_bool : kitT "bool" "bool" = some true := by decide
theorem kt_bool_str : kitT "bool" "str" = some false := by decide
theorem kt_bool_tuple : kitT "bool" "tuple" = some false := by decide
theorem kt_bool_list : kitT "bool" "list" = some false := by decide
theorem kt_str_int : kitT "str" "int" = some false := by decide
theorem kt_str_bool : kitT "str" "bool" = some false := by decide
theorem kt_str_str : kitT "str" "str" = some true := by decide
theorem kt_str_tuple : kitT "str" "tuple" = some false := by decide
theorem kt_str_list : kitT "str" "list" = some false := by decide
theorem kt_tuple_int : kitT "tuple" "int" = some false := by decide
theorem kt_tuple_bool : kitT "tuple" "bool" = some false := by decide
theorem kt_tuple_str : kitT "tuple" "str" = some false := by decide
theorem kt_tuple_tuple : kitT "tuple" "tuple" = some true := by decide
theorem kt_tuple_list : kitT "tuple" "list" = some false := by decide
theorem kt_list_int : kitT "list" "int" = some false := by decide
theorem kt_list_bool : kitT "list" "bool" = some false := by decide
theorem kt_list_str : kitT "list" "str" = some false := by decide
theorem kt_list_tuple : kitT "list" "tuple" = some false := by decide
theorem kt_list_list : kitT "list" "list" = some true := by decide
theorem kt_NoneType_int : kitT "NoneType" "int" = some false := by decide
theorem kt_NoneType_bool : kitT "NoneType" "bool" = some false := by decide
theorem kt_NoneType_str : kitT "NoneType" "str" = some false := by decide
theorem kt_NoneType_tuple : kitT "NoneType" "tuple" = some false := by decide
theorem kt_NoneType_list : kitT "NoneType" "list" = some false := by decide
def cIsi : FC := fun xs μ => match xs with
  | [x, .d (.v (.ty t))] => (match tyN μ x with
    | some a => (match kitT a t with
      | some r => some (.ok (wb r) μ)
      | none => none)
    | none => none)
  | _ => none
theorem run_isi {K : PySem.W.Frag} : RunC ga (dIsi K) cIsi := fun xs μ => by
  unfold cIsi
  split
  · rename_i x t
    split
    · rename_i a e
      split
      · rename_i r e2
        refine sat_ok fun P R p => ?_
        have e3 : tyW μ x = some (.type a) := by
          unfold tyN at e
          split at e
          · cases e
            assumption
          · cases e
        rw [w_isiB e3 (kitT_ok e2)]
        exact p
      · exact sat_none
    · exact sat_none
  · exact sat_none

/-! ### statements -/
inductive So where
  | nx (ρ : Rho) (μ : Mu)
  | rt (x : W) (μ : Mu)
  | bk (ρ : Rho) (μ : Mu)
  | ct (ρ : Rho) (μ : Mu)
  | xc (C : Str) (fs : List (Str × D)) (ρ : Rho) (μ : Mu)
def SPost (ga : Str → Addr) (d : Dn) : So → Prop
  | .nx ρ μ => d.nx ρ μ
  | .rt x μ => d.rt x μ
  | .bk ρ μ => d.bk ρ μ
  | .ct ρ μ => d.ct ρ μ
  | .xc C fs ρ μ => d.xc (ga C) fs ρ μ
abbrev FSt := Rho → Mu → Option So
def SatS (ga : Str → Addr) (x : Option So) (w : Dn → Prop) : Prop := ∀ r, x = some r → ∀ d, SPost ga d r → w d
def RunS (ga : Str → Addr) (s : DSt) (f : FSt) : Prop := ∀ ρ μ, SatS ga (f ρ μ) (fun d => s d ρ μ)
def sb (x : Option So) (k : Rho → Mu → Option So) : Option So :=
  match x with
  | none => none
  | some (.nx ρ μ) => k ρ μ
  | some r => some r
def eb {α : Type} (x : M α) (ρ : Rho) (k : α → Mu → Option So) : Option So :=
  match x with
  | none => none
  | some (.ok a μ) => k a μ
  | some (.ex C fs μ) => some (.xc C fs ρ μ)
section
variable {x y : Option So} {k : Rho → Mu → Option So} {ρ ρ' : Rho} {μ : Mu} {C : Str} {fs : List (Str × D)} {v : W}
theorem sb_nx : sb (some (.nx ρ μ)) k = k ρ μ := rfl
theorem sb_rt : sb (some (.rt v μ)) k = some (.rt v μ) := rfl
theorem sb_bk : sb (some (.bk ρ μ)) k = some (.bk ρ μ) := rfl
theorem sb_ct : sb (some (.ct ρ μ)) k = some (.ct ρ μ) := rfl
theorem sb_xc : sb (some (.xc C fs ρ μ)) k = some (.xc C fs ρ μ) := rfl
theorem sb_none : sb none k = none := rfl
theorem sb_ite {c : Prop} [Decidable c] : sb (if c then x else y) k = if c then sb x k else sb y k := by split <;> rfl
variable {α : Type} {a b : M α} {e : α} {h : α → Mu → Option So}
theorem eb_ok : eb (some (.ok e μ)) ρ h = h e μ := rfl
theorem eb_ex : eb (some (.ex C fs μ)) ρ h = some (.xc C fs ρ μ) := rfl
theorem eb_none : eb none ρ h = none := rfl
theorem eb_ite {c : Prop} [Decidable c] : eb (if c then a else b) ρ h = if c then eb a ρ h else eb b ρ h := by split <;> rfl
end
theorem ss_ok {r : So} {w : Dn → Prop} (h : ∀ d, SPost ga d r → w d) : SatS ga (some r) w := fun r e d p => by
  cases e
  exact h d p
theorem ss_none {w : Dn → Prop} : SatS ga none w := fun r e => by cases e
theorem ss_ite {c : Prop} [Decidable c] {x y : Option So} {w : Dn → Prop} (h : c → SatS ga x w) (h' : ¬ c → SatS ga y w) : SatS ga (if c then x else y) w := by
  by_cases q : c
  · rw [if_pos q]; exact h q
  · rw [if_neg q]; exact h' q
theorem ss_if {c : Prop} [Decidable c] {x : Option So} {w : Dn → Prop} (h : c → SatS ga x w) : SatS ga (if c then x else none) w := ss_ite h fun _ => ss_none
theorem SatS.imp {x : Option So} {w w' : Dn → Prop} (h : SatS ga x w) (i : ∀ d, w d → w' d) : SatS ga x w' := fun r e d p => i d (h r e d p)
theorem ss_eb {α : Type} {x : M α} {ρ : Rho} {k : α → Mu → Option So} {w : (α → Mu → Prop) → PX → Prop} {w' : α → Mu → Dn → Prop} {v : Dn → Prop} (h : Sat ga x w) (hk : ∀ a μ, SatS ga (k a μ) (w' a μ)) (i : ∀ d, w (fun a μ => w' a μ d) (d.x ρ) → v d) : SatS ga (eb x ρ k) v := by
  intro r e d p
  cases x with
  | none => cases e
  | some q =>
    cases q with
    | ok a μ => exact i _ (h _ rfl _ _ (show w' a μ d from hk a μ r e d p))
    | ex C fs μ =>
      cases e
      exact i _ (h _ rfl _ _ (show d.x ρ (ga C) fs μ from p))
def fNext : FSt := fun ρ μ => some (.nx ρ μ)
theorem run_next : RunS ga dNext fNext := fun ρ μ => ss_ok fun d p => p
def fSeq (f g : FSt) : FSt := fun ρ μ => sb (f ρ μ) g
theorem run_seq {s t : DSt} {f g : FSt} (h : RunS ga s f) (h' : RunS ga t g) : RunS ga (dSeq s t) (fSeq f g) := fun ρ μ r e d p => by
  unfold fSeq at e
  show s { d with nx := fun ρ' μ' => t d ρ' μ' } ρ μ
  cases q : f ρ μ with
  | none => rw [q] at e; cases e
  | some z =>
    rw [q] at e
    refine h ρ μ z q _ ?_
    cases z with
    | nx ρ' μ' => exact h' ρ' μ' r e d p
    | rt => cases e; exact p
    | bk => cases e; exact p
    | ct => cases e; exact p
    | xc => cases e; exact p
def fBreak : FSt := fun ρ μ => some (.bk ρ μ)
theorem run_break : RunS ga dBreak fBreak := fun ρ μ => ss_ok fun d p => p
def fCont : FSt := fun ρ μ => some (.ct ρ μ)
def fDrop (f : FE) : FSt := fun ρ μ => eb (f ρ μ) ρ fun _ μ' => some (.nx ρ μ')
theorem run_drop {de : DE} {f : FE} (h : RunE ga de f) : RunS ga (dDrop de) (fDrop f) := fun ρ μ => ss_eb (h ρ μ) (fun _ μ' => ss_ok (w := fun d => d.nx ρ μ') fun d p => p) fun d p => p
def fRet (f : FE) : FSt := fun ρ μ => eb (f ρ μ) ρ fun x μ' => some (.rt x μ')
theorem run_ret {de : DE} {f : FE} (h : RunE ga de f) : RunS ga (dRet de) (fRet f) := fun ρ μ => ss_eb (h ρ μ) (fun x μ' => ss_ok (w := fun d => d.rt x μ') fun d p => p) fun d p => p
def fRetN : FSt := fun _ μ => some (.rt wn μ)
def fIf (c : FT) (f g : FSt) : FSt := fun ρ μ => eb (c ρ μ) ρ fun b μ' => if b = true then f ρ μ' else g ρ μ'
theorem run_if {c : DTe} {s t : DSt} {fc : FT} {f g : FSt} (hc : RunT ga c fc) (h : RunS ga s f) (h' : RunS ga t g) : RunS ga (dIfS c s t) (fIf fc f g) := fun ρ μ => ss_eb (hc ρ μ) (fun b μ' => (show SatS ga _ (fun d => (b = true → s d ρ μ') ∧ (b = false → t d ρ μ')) from ss_ite
  (fun q => (h ρ μ').imp fun d p => ⟨fun _ => p, fun z => by rw [q] at z; cases z⟩) fun q => (h' ρ μ').imp fun d p => ⟨fun z => absurd z q, fun _ => p⟩)) fun d p => p
/-! targets -/
abbrev FG := W → Rho → Mu → Option (Rho × Mu)
abbrev FGs := List W → Rho → Mu → Option (Rho × Mu)
def RunG (dg : DG) (f : FG) : Prop := ∀ x ρ μ r, f x ρ μ = some r → ∀ N, N r.1 r.2 → dg x ρ μ N
def RunGs (dg : DGs) (f : FGs) : Prop := ∀ xs ρ μ r, f xs ρ μ = some r → ∀ N, N r.1 r.2 → dg xs ρ μ N
def gNm (i : Nat) : FG := fun x ρ μ => some (ρ.set i (some x), μ)
theorem run_name {i : Nat} : RunG (dName i) (gNm i) := fun x ρ μ r e N p => by
  cases e
  exact p
def gNl : FGs := fun xs ρ μ => match xs with
  | [] => some (ρ, μ)
  | _ => none
theorem run_gnil : RunGs dGNil gNl := fun xs ρ μ r e N p => by
  unfold gNl at e
  split at e
  · cases e
    exact ⟨rfl, p⟩
  · cases e
def gCs (f : FG) (g : FGs) : FGs := fun xs ρ μ => match xs with
  | x :: r => (match f x ρ μ with
    | some z => g r z.1 z.2
    | none => none)
  | [] => none
theorem run_gcons {dg : DG} {dr : DGs} {f : FG} {g : FGs} (h : RunG dg f) (h' : RunGs dr g) : RunGs (dGCons dg dr) (gCs f g) := fun xs ρ μ r e N p => by
  unfold gCs at e
  split at e
  · rename_i x xs
    split at e
    · rename_i z q
      exact ⟨x, xs, rfl, h _ _ _ _ q _ (h' _ _ _ _ e N p)⟩
    · cases e
  · cases e
def gTp (n : Nat) (f : FGs) : FG := fun x ρ μ => match x with
  | .d (.tup ds) => if ds.length = n then f (ds.map (item false)) ρ μ else none
  | .b (.tup ds) => if ds.length = n then f (ds.map (item true)) ρ μ else none
  | _ => none
theorem run_gtup {n : Nat} {dr : DGs} {f : FGs} (h : RunGs dr f) : RunG (dGTup n dr) (gTp n f) := fun x ρ μ r e N p => by
  unfold gTp at e
  split at e
  · split at e
    · rename_i q
      exact ⟨_, false, .inl ⟨rfl, rfl⟩, q, h _ _ _ _ e N p⟩
    · cases e
  · split at e
    · rename_i q
      exact ⟨_, true, .inr ⟨rfl, rfl⟩, q, h _ _ _ _ e N p⟩
    · cases e
  · cases e
def fAsg (f : FE) (g : FG) : FSt := fun ρ μ => eb (f ρ μ) ρ fun x μ' => match g x ρ μ' with
  | some z => some (.nx z.1 z.2)
  | none => none
theorem run_asg {de : DE} {dg : DG} {f : FE} {g : FG} (h : RunE ga de f) (hg : RunG dg g) : RunS ga (dAsg de dg) (fAsg f g) := fun ρ μ => ss_eb (h ρ μ) (fun x μ' => (show SatS ga _ (fun d => dg x ρ μ' d.nx) by
  split
  · rename_i z q
    exact ss_ok fun d p => hg _ _ _ _ q _ p
  · exact ss_none)) fun d p => p
def fAug (i : Nat) (f : Int → Int → Int) (g : FE) : FSt := fun ρ μ => match ρ[i]? with
  | some (some (.d (.v (.int a)))) => eb (g ρ μ) ρ fun x μ' => (match x with
    | .d (.v (.int b)) => some (.nx (ρ.set i (some (wi (f a b)))) μ')
    | _ => none)
  | _ => none
theorem run_aug {i : Nat} {f : Int → Int → Int} {de : DE} {g : FE} (h : RunE ga de g) : RunS ga (dAug i f de) (fAug i f g) := fun ρ μ => by
  unfold fAug
  split
  · rename_i a e
    refine (ss_eb (h ρ μ) (w' := fun x μ' d => ∃ b, x = wi b ∧ d.nx (ρ.set i (some (wi (f a b)))) μ') (fun x μ' => ?_) fun d p => p).imp fun d p => ⟨a, e, p⟩
    split
    · exact ss_ok fun d p => ⟨_, rfl, p⟩
    · exact ss_none
  · exact ss_none
def fApp (fl fe : FE) : FSt := fun ρ μ => eb (fl ρ μ) ρ fun x μ1 => match x with
  | .m k => (match mlist μ1 k with
    | some _ => eb (fe ρ μ1) ρ fun y μ2 => (match y with
      | .d z => (match mlist μ2 k with
        | some ds => if smallB (ds.length + 1) = true then some (.nx ρ (μ2.set k (.lst (ds ++ [z])))) else none
        | none => none)
      | _ => none)
    | none => none)
  | _ => none
theorem run_app {dl de : DE} {fl fe : FE} (hl : RunE ga dl fl) (h : RunE ga de fe) : RunS ga (dApp dl de) (fApp fl fe) := fun ρ μ => by
  refine ss_eb (hl ρ μ) (w' := fun x μ1 d => ∃ k ds0, x = W.m k ∧ μ1[k]? = some (MO.lst ds0) ∧ de ρ μ1 (fun y μ2 => ∃ z ds, y = W.d z ∧ μ2[k]? = some (MO.lst ds) ∧ small (ds.length + 1) ∧ d.nx ρ (μ2.set k (.lst (ds ++ [z])))) (d.x ρ)) (fun x μ1 => ?_) fun d p => p
  split
  · rename_i k
    split
    · rename_i ds0 e0
      refine (ss_eb (h ρ μ1) (w' := fun y μ2 d => ∃ z ds, y = W.d z ∧ μ2[k]? = some (MO.lst ds) ∧ small (ds.length + 1) ∧ d.nx ρ (μ2.set k (.lst (ds ++ [z])))) (fun y μ2 => ?_) fun d p => p).imp fun d p => ⟨k, ds0, rfl, mlist_ok e0, p⟩
      split
      · rename_i z
        split
        · rename_i ds e
          exact ss_if fun q => ss_ok fun d p => ⟨z, ds, rfl, mlist_ok e, smallB_ok q, p⟩
        · exact ss_none
      · exact ss_none
    · exact ss_none
  · exact ss_none
def fSet (fl fi fe : FE) : FSt := fun ρ μ => eb (fe ρ μ) ρ fun y μ1 => eb (fl ρ μ1) ρ fun x μ2 => eb (fi ρ μ2) ρ fun j μ3 => match y, x, j with
  | .d z, .m k, .d (.v (.int i)) => (match mlist μ3 k with
    | some ds => (match ixN ds.length i with
      | some n => some (.nx ρ (μ3.set k (.lst (ds.set n z))))
      | none => none)
    | none => none)
  | _, _, _ => none
theorem run_set {dl di de : DE} {fl fi fe : FE} (hl : RunE ga dl fl) (hi : RunE ga di fi) (h : RunE ga de fe) : RunS ga (dSet dl di de) (fSet fl fi fe) := fun ρ μ => by
  refine ss_eb (h ρ μ) (fun y μ1 => ss_eb (hl ρ μ1) (fun x μ2 => ss_eb (hi ρ μ2) (w' := fun j μ3 d => ∃ z k i n ds, y = W.d z ∧ x = W.m k ∧ j = wi i ∧ μ3[k]? = some (MO.lst ds) ∧ ixN ds.length i = some n ∧ d.nx ρ (μ3.set k (.lst (ds.set n z)))) (fun j μ3 => ?_) fun d p => p) fun d p => p) fun d p => p
  split
  · rename_i z k i
    split
    · rename_i ds e
      split
      · rename_i n q
        exact ss_ok fun d p => ⟨z, k, i, n, ds, rfl, rfl, rfl, mlist_ok e, q, p⟩
      · exact ss_none
    · exact ss_none
  · exact ss_none
end
end FR

set_option Elab.async false
set_option linter.all false
set_option maxRecDepth 100000
set_option maxHeartbeats 4000000
/-! FR, part three: walks, loops, comprehensions, calls, defs. -/
namespace FR
open PySem L2 Evl DL
section
variable {ga : Str → Addr}

abbrev FI := Rho → Mu → M (List W)
def RunI (ga : Str → Addr) (d : DI) (f : FI) : Prop := ∀ ρ μ, Sat ga (f ρ μ) (d ρ μ)
def iFix (f : FE) : FI := fun ρ μ => bd (f ρ μ) fun x μ' => match fixOf x with
  | some (ds, l, _) => some (.ok (ds.map (item l)) μ')
  | none => none
def iFixL (f : FE) : FI := fun ρ μ => bd (f ρ μ) fun x μ' => match fixOf x with
  | some (ds, l, true) => some (.ok (ds.map (item l)) μ')
  | _ => none
def iFixT (f : FE) : FI := fun ρ μ => bd (f ρ μ) fun x μ' => match fixOf x with
  | some (ds, l, false) => some (.ok (ds.map (item l)) μ')
  | _ => none
theorem run_iS {de : DE} {f : FE} (h : RunE ga de f) : RunI ga (dIS de) (iFix f) := fun ρ μ => sat_bd (h ρ μ) (w' := fun x μ' P R => ∃ ds l k, fixOf x = some (ds, l, k) ∧ P (ds.map (item l)) μ') (fun x μ' => by
  split
  · rename_i ds l k e
    exact sat_ok fun P R p => ⟨ds, l, k, e, p⟩
  · exact sat_none) fun _ _ p => p
def r62 (i : Int) : Bool := leI (-4611686018427387904) i && ltI i 4611686018427387904
theorem r62_ok {i : Int} (h : r62 i = true) : -(2 ^ 62) ≤ i ∧ i < 2 ^ 62 := by
  unfold r62 at h
  rw [Bool.and_eq_true, leI_iff, ltI_iff] at h
  exact ⟨by omega, by omega⟩
theorem r62_le {i : Int} (h : -4611686018427387904 ≤ i) (h' : i < 4611686018427387904) : r62 i = true := by
  unfold r62
  rw [leI_iff.mpr h, ltI_iff.mpr h']
  rfl
def iR1 (f : FA) : FI := fun ρ μ => bd (f ρ μ) fun xs μ' => match xs with
  | [.d (.v (.int j))] => if r62 j = true then some (.ok (rints 0 j.toNat) μ') else none
  | _ => none
theorem run_iR1 {da : DAr} {f : FA} (h : RunA ga da f) : RunI ga (dIR1 da) (iR1 f) := fun ρ μ => sat_bd (h ρ μ) (w' := fun xs μ' P R => ∃ j, xs = [wi j] ∧ -(2 ^ 62) ≤ j ∧ j < 2 ^ 62 ∧ P (rints 0 j.toNat) μ') (fun xs μ' => by
  split
  · rename_i j
    exact sat_if fun q => sat_ok fun P R p => ⟨j, rfl, (r62_ok q).1, (r62_ok q).2, p⟩
  · exact sat_none) fun _ _ p => p
def iR2 (f : FA) : FI := fun ρ μ => bd (f ρ μ) fun xs μ' => match xs with
  | [.d (.v (.int i)), .d (.v (.int j))] => if (r62 i && r62 j) = true then some (.ok (rints i (j - i).toNat) μ') else none
  | _ => none
def iZ (f : FA) : FI := fun ρ μ => bd (f ρ μ) fun xs μ' => match xs with
  | [x, y] => (match fixOf x, fixOf y with
    | some (ds, l, k), some (es, l2, k2) => if k = k2 then some (.ok (zips l l2 ds es) μ') else none
    | _, _ => none)
  | _ => none
def iE (f : FA) : FI := fun ρ μ => bd (f ρ μ) fun xs μ' => match xs with
  | [x] => (match fixOf x with
    | some (ds, l, true) => some (.ok (enums l 0 ds) μ')
    | _ => none)
  | _ => none
theorem run_iE {da : DAr} {f : FA} (h : RunA ga da f) : RunI ga (dIE da) (iE f) := fun ρ μ => sat_bd (h ρ μ) (w' := fun xs μ' P R => ∃ x ds l, xs = [x] ∧ fixOf x = some (ds, l, true) ∧ P (enums l 0 ds) μ') (fun xs μ' => by
  split
  · rename_i x
    split
    · rename_i ds l e
      exact sat_ok fun P R p => ⟨x, ds, l, rfl, e, p⟩
    · exact sat_none
  · exact sat_none) fun _ _ p => p

/-! ### loops -/
def inCutB (n : Nat) : Rho → Bool
  | [] => true
  | some (.m k) :: r => decide (k < n) && inCutB n r
  | _ :: r => inCutB n r
theorem inCutB_ok {n : Nat} : ∀ {r : Rho}, inCutB n r = true → inCut n r
  | [], _ => trivial
  | some (.m k) :: r, h => by
    have h' : (decide (k < n) && inCutB n r) = true := h
    rw [Bool.and_eq_true, decide_eq_true_iff] at h'
    exact ⟨h'.1, inCutB_ok h'.2⟩
  | some (.d _) :: r, h => inCutB_ok (r := r) h
  | some (.b _) :: r, h => inCutB_ok (r := r) h
  | none :: r, h => inCutB_ok (r := r) h
theorem WkR.refl : ∀ {r : Rho}, WkR r r
  | [] => .nil
  | _ :: _ => .keep WkR.refl
theorem WkR.setN : ∀ {r s : Rho} {i : Nat}, WkR r s → WkR r (s.set i none)
  | _, _, _, .nil => .nil
  | _, _, 0, .keep h => .drop h
  | _, _, 0, .drop h => .drop h
  | _, _, i + 1, .keep h => .keep (WkR.setN h)
  | _, _, i + 1, .drop h => .drop (WkR.setN h)
theorem WkR.wipe {r : Rho} : ∀ {vs : List Nat}, WkR r (wipeW r vs)
  | [] => WkR.refl
  | _ :: _ => WkR.setN WkR.wipe
theorem WkM.take : ∀ {n : Nat} {μ : Mu}, WkM μ (μ.take n)
  | 0, _ => by simp; exact .nil
  | _ + 1, [] => .nil
  | n + 1, _ :: r => .keep (WkM.take (n := n) (μ := r))
theorem WkM.rfl' : ∀ {μ : Mu}, WkM μ μ
  | [] => .nil
  | _ :: _ => .keep WkM.rfl'
/-- what is kept between two turns: the names in dead are let go, and so are the things made in the turn where no name holds them -/
def cutL (dead : List Nat) (n : Nat) (ρ : Rho) (μ : Mu) : Option (Rho × Mu) :=
  if (inCutB n (wipeW ρ dead) && decide (n ≤ μ.length)) = true then some (wipeW ρ dead, μ.take n)
  else if (inCutB μ.length (wipeW ρ dead) && decide (n ≤ μ.length)) = true then some (wipeW ρ dead, μ) else none
theorem cutL_wkn {dead : List Nat} {n : Nat} {ρ : Rho} {μ : Mu} {z : Rho × Mu} {N : Rho → Mu → Prop} (h : cutL dead n ρ μ = some z) (p : N z.1 z.2) : Wkn n N ρ μ := by
  unfold cutL at h
  split at h
  · rename_i q
    cases h
    rw [Bool.and_eq_true, decide_eq_true_iff] at q
    have hl : (μ.take n).length = n := by rw [List.length_take]; omega
    exact ⟨_, _, WkR.wipe, WkM.take, by rw [hl]; exact Nat.le_refl _, by rw [hl]; exact inCutB_ok q.1, p⟩
  · split at h
    · rename_i q
      cases h
      rw [Bool.and_eq_true, decide_eq_true_iff] at q
      exact ⟨_, _, WkR.wipe, WkM.rfl', q.2, inCutB_ok q.1, p⟩
    · cases h
/-- a turn's end: how it goes on -/
def lt (dead : List Nat) (n : Nat) (o : Option So) (k : Rho → Mu → Option So) : Option So := match o with
  | none => none
  | some (.nx ρ' μ') => (match cutL dead n ρ' μ' with
    | none => none
    | some z => k z.1 z.2)
  | some (.ct ρ' μ') => (match cutL dead n ρ' μ' with
    | none => none
    | some z => k z.1 z.2)
  | some (.bk ρ' μ') => some (.nx ρ' μ')
  | some (.rt x μ') => some (.rt x μ')
  | some (.xc C fs ρ' μ') => some (.xc C fs ρ' μ')
section
variable {dead : List Nat} {n : Nat} {k : Rho → Mu → Option So} {ρ : Rho} {μ : Mu} {x : W} {C : Str} {gs : List (Str × D)} {o o' : Option So}
def lc (dead : List Nat) (n : Nat) (k : Rho → Mu → Option So) (ρ : Rho) (μ : Mu) : Option So := match cutL dead n ρ μ with
  | none => none
  | some z => k z.1 z.2
theorem lt_nx : lt dead n (some (.nx ρ μ)) k = lc dead n k ρ μ := rfl
theorem lt_ct : lt dead n (some (.ct ρ μ)) k = lc dead n k ρ μ := rfl
theorem lt_bk : lt dead n (some (.bk ρ μ)) k = some (.nx ρ μ) := rfl
theorem lt_rt : lt dead n (some (.rt x μ)) k = some (.rt x μ) := rfl
theorem lt_xc : lt dead n (some (.xc C gs ρ μ)) k = some (.xc C gs ρ μ) := rfl
theorem lt_none : lt dead n none k = none := rfl
theorem lt_ite {c : Prop} [Decidable c] : lt dead n (if c then o else o') k = if c then lt dead n o k else lt dead n o' k := by split <;> rfl
end
def turn (g : FG) (b : FSt) (dead : List Nat) (n : Nat) (x : W) (ρ : Rho) (μ : Mu) (k : Rho → Mu → Option So) : Option So := match g x ρ μ with
  | none => none
  | some z => lt dead n (b z.1 z.2) k
def fLoop (g : FG) (b : FSt) (dead : List Nat) (n : Nat) : List W → Rho → Mu → Option So
  | [], ρ, μ => some (.nx ρ μ)
  | x :: xs, ρ, μ => turn g b dead n x ρ μ (fLoop g b dead n xs)
def fFor (i : FI) (g : FG) (b : FSt) (dead : List Nat) : FSt := fun ρ μ => eb (i ρ μ) ρ fun xs μ1 => match cutL dead μ1.length ρ μ1 with
  | none => none
  | some z => fLoop g b dead μ1.length xs z.1 z.2
theorem run_for {di : DI} {dg : DG} {db : DSt} {i : FI} {g : FG} {b : FSt} {dead : List Nat} (hi : RunI ga di i) (hg : RunG dg g) (hb : RunS ga db b) : RunS ga (dFor di dg db) (fFor i g b dead) := fun ρ μ => by
  refine ss_eb (hi ρ μ) (w' := fun xs μ1 d => ForI xs dg db d ρ μ1) (fun xs μ1 => ?_) fun d p => p
  split
  · exact ss_none
  · rename_i z hz
    intro r e d p
    refine ⟨fun i ρ' μ' => ∃ r, fLoop g b dead μ1.length (xs.drop i) ρ' μ' = some r ∧ SPost ga d r, cutL_wkn hz ⟨r, e, p⟩, fun i x ρ' μ' hx h => ?_, fun ρ' μ' h => ?_⟩
    · obtain ⟨r, h, q⟩ := h
      have hl := (List.getElem?_eq_some_iff.mp hx).1
      have he : xs.drop i = x :: xs.drop (i + 1) := by
        rw [List.drop_eq_getElem_cons hl]
        congr 1
        exact (List.getElem?_eq_some_iff.mp hx).2
      rw [he, fLoop, turn] at h
      split at h
      · cases h
      · rename_i z1 hz1
        refine ⟨fun ρ2 μ2 => ρ2 = z1.1 ∧ μ2 = z1.2, hg _ _ _ _ hz1 _ ⟨rfl, rfl⟩, fun ρ2 μ2 hN => ?_⟩
        obtain ⟨rfl, rfl⟩ := hN
        refine ⟨_, ?_, Dn.Le.refl⟩
        unfold lt at h
        split at h
        · cases h
        · rename_i ρ3 μ3 hb3
          split at h
          · cases h
          · rename_i z4 h4
            exact hb _ _ _ hb3 _ (show Wkn _ _ _ _ from cutL_wkn h4 ⟨r, h, q⟩)
        · rename_i ρ3 μ3 hb3
          split at h
          · cases h
          · rename_i z4 h4
            exact hb _ _ _ hb3 _ (show Wkn _ _ _ _ from cutL_wkn h4 ⟨r, h, q⟩)
        · rename_i ρ3 μ3 hb3
          cases h
          exact hb _ _ _ hb3 _ q
        · rename_i y μ3 hb3
          cases h
          exact hb _ _ _ hb3 _ q
        · rename_i C fs ρ3 μ3 hb3
          cases h
          exact hb _ _ _ hb3 _ q
    · obtain ⟨r, h, q⟩ := h
      rw [List.drop_length, fLoop] at h
      cases h
      exact q

/-! ### comprehensions -/
def fLcL (g : FG) (t : FT) (e : FE) (vs : List Nat) (ρ : Rho) (n : Nat) : List W → Mu → Option (List D × Mu)
  | [], μ => some ([], μ)
  | x :: xs, μ => match g x (wipeW ρ vs) μ with
    | none => none
    | some z => match t z.1 z.2 with
      | some (.ok true μ4) => (match e z.1 μ4 with
        | some (.ok (.d y) μ5) => if n ≤ μ5.length then (match fLcL g t e vs ρ n xs (μ5.take n) with
          | some (ys, μ6) => some (y :: ys, μ6)
          | none => none) else none
        | _ => none)
      | some (.ok false μ4) => if n ≤ μ4.length then fLcL g t e vs ρ n xs (μ4.take n) else none
      | _ => none
def fLc (mt : Bool) (i : FI) (g : FG) (t : FT) (e : FE) (vs : List Nat) : FE := fun ρ μ => bd (i ρ μ) fun xs μ1 => if smallB xs.length = true then (match fLcL g t e vs ρ μ1.length xs μ1 with
  | some (ys, μ2) => newL mt ys μ2
  | none => none) else none
def fYes : FT := fun _ μ => some (.ok true μ)
theorem run_yes : RunT ga dYes fYes := fun ρ μ => sat_ok fun P R p => p
theorem run_lc {mt : Bool} {di : DI} {dg : DG} {dt : DTe} {de : DE} {i : FI} {g : FG} {t : FT} {e : FE} {vs : List Nat} (hi : RunI ga di i) (hg : RunG dg g) (ht : RunT ga dt t) (he : RunE ga de e) : RunE ga (dLc di dg dt de vs) (fLc mt i g t e vs) := fun ρ μ => by
  refine sat_bd (hi ρ μ) (w' := fun xs μ1 P R => LcI xs dg dt de vs ρ μ1 P) (fun xs μ1 => ?_) fun _ _ p => p
  refine sat_if fun hs => ?_
  split
  · rename_i ys μ2 hl
    refine run_newL.imp fun P R p => ⟨smallB_ok hs, fun i acc μ' => ∃ zs μ'', fLcL g t e vs ρ μ1.length (xs.drop i) μ' = some (zs, μ'') ∧ newLst (acc ++ zs) μ'' P, ⟨ys, μ2, hl, p⟩, fun i x acc μ' hx _ h => ?_, fun acc μ' _ h => ?_⟩
    · obtain ⟨zs, μ'', h, q⟩ := h
      have hlt := (List.getElem?_eq_some_iff.mp hx).1
      have hd : xs.drop i = x :: xs.drop (i + 1) := by
        rw [List.drop_eq_getElem_cons hlt]
        congr 1
        exact (List.getElem?_eq_some_iff.mp hx).2
      rw [hd, fLcL] at h
      split at h
      · cases h
      · rename_i z hz
        refine ⟨fun ρ3 μ3 => ρ3 = z.1 ∧ μ3 = z.2, hg _ _ _ _ hz _ ⟨rfl, rfl⟩, fun ρ3 μ3 hN => ?_⟩
        obtain ⟨rfl, rfl⟩ := hN
        split at h
        · rename_i μ4 h4
          refine ⟨fun b μ' => b = true ∧ μ' = μ4, ht _ _ _ h4 _ _ ⟨rfl, rfl⟩, fun b μ' hb => ?_⟩
          obtain ⟨rfl, rfl⟩ := hb
          refine ⟨fun _ => ?_, fun c => nomatch c⟩
          split at h
          · rename_i y μ5 h5
            split at h
            · rename_i hn
              split at h
              · rename_i ys' μ6 h6
                cases h
                refine ⟨fun y' μ' => y' = .d y ∧ μ' = μ5, he _ _ _ h5 _ _ ⟨rfl, rfl⟩, fun y' μ' hy => ?_⟩
                obtain ⟨rfl, rfl⟩ := hy
                refine ⟨y, rfl, _, WkM.take (n := μ1.length), by rw [List.length_take]; omega, ⟨ys', _, h6, by simpa using q⟩⟩
              · cases h
            · cases h
          · cases h
        · rename_i μ4 h4
          refine ⟨fun b μ' => b = false ∧ μ' = μ4, ht _ _ _ h4 _ _ ⟨rfl, rfl⟩, fun b μ' hb => ?_⟩
          obtain ⟨rfl, rfl⟩ := hb
          refine ⟨fun c => (nomatch c), fun _ => ?_⟩
          split at h
          · exact ⟨_, WkM.take (n := μ1.length), by rw [List.length_take]; omega, ⟨zs, μ'', h, q⟩⟩
          · cases h
        · cases h
    · obtain ⟨zs, μ'', h, q⟩ := h
      rw [List.drop_length, fLcL] at h
      cases h
      simpa using q
  · exact sat_none

/-! ### calls -/
abbrev Fn := List W → Mu → M W
def fnFS (ga : Str → Addr) (F : Fn) : FS := fun xs μ P R => ∃ r, F xs μ = some r ∧ Post ga P R r
def idx (k : Nat) : List Nat → Nat → Option Nat
  | [], _ => none
  | a :: r, i => if a = k then some i else idx k r (i + 1)
theorem idx_ok {k : Nat} : ∀ {is pre : List Nat} {j : Nat}, idx k is pre.length = some j → (pre ++ is)[j]? = some k
  | [], _, _, h => by cases h
  | a :: r, pre, j, h => by
    unfold idx at h
    split at h
    · rename_i q
      cases h
      simp [q]
    · have := idx_ok (is := r) (pre := pre ++ [a]) (j := j) (by simpa using h)
      simpa using this
theorem idx_none {k : Nat} : ∀ {is : List Nat} {i : Nat}, idx k is i = none → k ∉ is
  | [], _, _ => by simp
  | a :: r, i, h => by
    unfold idx at h
    split at h
    · cases h
    · rename_i q
      have := idx_none h
      simp only [List.mem_cons, not_or]
      exact ⟨fun e => q e.symm, this⟩
/-- the things handed over to be changed -/
def passI : List Bool → List W → List Nat
  | true :: ms, .m k :: xs => if k ∈ passI ms xs then passI ms xs else k :: passI ms xs
  | _ :: ms, _ :: xs => passI ms xs
  | _, _ => []
def passW (μ : Mu) (is : List Nat) : W → Option W
  | .m k => (match idx k is 0 with
    | some j => some (.m j)
    | none => match mlist μ k with
      | some ds => some (.b (.lst ds))
      | none => none)
  | x => some x
def passWs (μ : Mu) (is : List Nat) : List W → Option (List W)
  | [] => some []
  | x :: xs => match passW μ is x, passWs μ is xs with
    | some y, some ys => some (y :: ys)
    | _, _ => none
def lentI (μ : Mu) (is : List Nat) : List W → List Nat
  | [] => []
  | .m k :: xs => (match idx k is 0 with
    | some _ => lentI μ is xs
    | none => match mlist μ k with
      | some _ => k :: lentI μ is xs
      | none => lentI μ is xs)
  | _ :: xs => lentI μ is xs
theorem lentI_ok {μ : Mu} {is : List Nat} : ∀ {xs : List W}, ∀ k ∈ lentI μ is xs, k ∉ is ∧ ∃ ds, μ[k]? = some (.lst ds)
  | [], k, h => by simp [lentI] at h
  | .d _ :: xs, k, h => lentI_ok (xs := xs) k h
  | .b _ :: xs, k, h => lentI_ok (xs := xs) k h
  | .m j :: xs, k, h => by
    unfold lentI at h
    split at h
    · exact lentI_ok (xs := xs) k h
    · rename_i q
      split at h
      · rename_i ds e
        rcases List.mem_cons.mp h with rfl | h
        · exact ⟨idx_none q, ds, mlist_ok e⟩
        · exact lentI_ok (xs := xs) k h
      · exact lentI_ok (xs := xs) k h
theorem passA_sub {μ : Mu} {is ls ls' : List Nat} {x y : W} (s : ∀ k ∈ ls, k ∈ ls') (h : PassA μ is ls x y) : PassA μ is ls' x y := by
  cases h with
  | d => exact .d _
  | b => exact .b _
  | m e => exact .m e
  | l h e => exact .l (s _ h) e
theorem passAs_sub {μ : Mu} {is ls ls' : List Nat} (s : ∀ k ∈ ls, k ∈ ls') : ∀ {xs ys : List W}, PassAs μ is ls xs ys → PassAs μ is ls' xs ys
  | _, _, .nil => .nil
  | _, _, .cons a t => .cons (passA_sub s a) (passAs_sub s t)
theorem passWs_ok {μ : Mu} {is : List Nat} : ∀ {xs ys : List W}, passWs μ is xs = some ys → PassAs μ is (lentI μ is xs) xs ys
  | [], ys, h => by cases h; exact .nil
  | x :: xs, ys, h => by
    unfold passWs at h
    split at h
    · rename_i y ys' h1 h2
      cases h
      have ih := passWs_ok h2
      cases x with
      | d x =>
        have e : y = .d x := by simpa [passW] using h1.symm
        subst e
        exact .cons (.d _) ih
      | b x =>
        have e : y = .b x := by simpa [passW] using h1.symm
        subst e
        exact .cons (.b _) ih
      | m k =>
        simp only [passW] at h1
        unfold lentI
        cases e : idx k is 0 with
        | some j =>
          rw [e] at h1
          have e' : y = .m j := by simpa using h1.symm
          subst e'
          have := idx_ok (is := is) (pre := []) e
          exact .cons (.m (by simpa using this)) ih
        | none =>
          rw [e] at h1
          cases e2 : mlist μ k with
          | none => rw [e2] at h1; simp at h1
          | some ds =>
            rw [e2] at h1
            have e' : y = .b (.lst ds) := by simpa using h1.symm
            subst e'
            exact .cons (.l (by simp) (mlist_ok e2)) (passAs_sub (fun k h => by simp [h]) ih)
    · cases h
def noBb : W → Bool
  | .b _ => false
  | _ => true
theorem noBb_ok {x : W} (h : noBb x = true) : noB x := by
  cases x with
  | b _ => cases h
  | _ => trivial
def fCallW (ms : List Bool) (F : Fn) (xs : List W) (μ : Mu) : M W :=
  if (decide (passI ms xs).Nodup && (passI ms xs).all (fun k => decide (k < μ.length))) = true then
    (match passWs μ (passI ms xs) xs with
    | none => none
    | some ys => match F ys ((passI ms xs).map fun k => μ.getD k .dead) with
      | none => none
      | some (.ok x ν) => if (decide ((passI ms xs).length ≤ ν.length) && noBb x) = true then some (.ok (backW μ.length (passI ms xs) x) (merge μ (passI ms xs) ν)) else none
      | some (.ex C gs ν) => if (passI ms xs).length ≤ ν.length then some (.ex C gs (merge μ (passI ms xs) ν)) else none)
  else none
theorem sat_callW {ms : List Bool} {F : Fn} {xs : List W} {μ : Mu} : Sat ga (fCallW ms F xs μ) (CallW (fnFS ga F) xs μ) := by
  unfold fCallW
  refine sat_if fun q => ?_
  rw [Bool.and_eq_true, decide_eq_true_iff, List.all_eq_true] at q
  split
  · exact sat_none
  · rename_i ys hp
    intro r e P R p
    have lt : ∀ k ∈ passI ms xs, k < μ.length := fun k h => of_decide_eq_true (q.2 k h)
    split at e
    · cases e
    · rename_i x ν hF
      split at e
      · rename_i c
        cases e
        rw [Bool.and_eq_true, decide_eq_true_iff] at c
        refine ⟨passI ms xs, lentI μ (passI ms xs) xs, ys, fun y ν' => y = x ∧ ν' = ν, fun _ _ _ => False, q.1, lt, lentI_ok, passWs_ok hp, ⟨_, hF, rfl, rfl⟩, fun y ν' _ h => ?_, fun _ _ _ _ h => h.elim⟩
        obtain ⟨rfl, rfl⟩ := h
        exact ⟨noBb_ok c.2, p⟩
      · cases e
    · rename_i C gs ν hF
      split at e
      · rename_i c
        cases e
        refine ⟨passI ms xs, lentI μ (passI ms xs) xs, ys, fun _ _ => False, fun C' gs' ν' => C' = ga C ∧ gs' = gs ∧ ν' = ν, q.1, lt, lentI_ok, passWs_ok hp, ⟨_, hF, rfl, rfl, rfl⟩, fun _ _ _ h => h.elim, fun C' gs' ν' _ h => ?_⟩
        obtain ⟨rfl, rfl, rfl⟩ := h
        exact p
      · cases e
def fDef (ms : List Bool) (F : Fn) (dvs : List V) (f : FA) : FE := fun ρ μ => bd (f ρ μ) fun xs μ1 => fCallW ms F (xs ++ dws dvs) μ1
theorem run_def {ms : List Bool} {F : Fn} {dvs : List V} {da : DAr} {f : FA} (h : RunA ga da f) : RunE ga (dDef (fnFS ga F) dvs da) (fDef ms F dvs f) := fun ρ μ => sat_bd (h ρ μ) (fun xs μ1 => sat_callW) fun _ _ p => p
def fNew (mt : Bool) (C : Addr) (ms : List Bool) (F : Fn) (dvs : List V) (f : FA) : FE := fun ρ μ => bd (f ρ μ) fun xs μ1 =>
  match fCallW (true :: ms) F (.m μ1.length :: (xs ++ dws dvs)) (μ1 ++ [.ins C []]) with
  | none => none
  | some (.ok y μ2) => (match y, mins μ2 μ1.length with
    | .d (.v .non), some (C', gs) => if C' = C then (if mt = true then some (.ok (.m μ1.length) μ2) else some (.ok (.d (.obj C gs)) (μ2.take μ1.length))) else none
    | _, _ => none)
  | some (.ex D gs μ2) => some (.ex D gs (μ2.take μ1.length))
theorem mins_ok {μ : Mu} {k : Nat} {C : Addr} {gs : List (Str × D)} (h : mins μ k = some (C, gs)) : μ[k]? = some (.ins C gs) := by
  unfold mins at h
  split at h
  · rename_i e
    cases h
    exact e
  · cases h
theorem run_new {mt : Bool} {C : Addr} {ms : List Bool} {F : Fn} {dvs : List V} {da : DAr} {f : FA} (h : RunA ga da f) : RunE ga (dNew C (fnFS ga F) dvs da) (fNew mt C ms F dvs f) := fun ρ μ => by
  refine sat_bd (h ρ μ) (w' := fun xs μ1 P R => CallW (fnFS ga F) (W.m μ1.length :: (xs ++ dws dvs)) (μ1 ++ [MO.ins C []]) (fun y μ2 => y = wn ∧ ∃ gs, μ2[μ1.length]? = some (MO.ins C gs) ∧ (P (W.d (D.obj C gs)) (μ2.take μ1.length) ∨ P (W.m μ1.length) μ2)) (fun D gs μ2 => R D gs (μ2.take μ1.length))) (fun xs μ1 => ?_) fun _ _ p => p
  intro r e P R p
  split at e
  · cases e
  · rename_i y μ2 hq
    split at e
    · rename_i C' gs hm
      split at e
      · rename_i hC
        subst hC
        refine sat_callW (ms := true :: ms) _ hq _ _ ⟨rfl, gs, mins_ok hm, ?_⟩
        split at e
        · cases e
          exact .inr p
        · cases e
          exact .inl p
      · cases e
    · cases e
  · rename_i D gs μ2 hq
    cases e
    exact sat_callW (ms := true :: ms) _ hq _ _ p
def fFld (C : Addr) (n : Str) (f : FE) : FE := fun ρ μ => bd (f ρ μ) fun x μ1 => match insOf μ1 x with
  | some (C', gs, l) => if C' = C then (match gs.lookup n with
    | some d => some (.ok (item l d) μ1)
    | none => none) else none
  | none => none
theorem run_fld {C : Addr} {n : Str} {de : DE} {f : FE} (h : RunE ga de f) : RunE ga (dFldC C n de) (fFld C n f) := fun ρ μ => sat_bd (h ρ μ) (w' := fun x μ1 P R => FldC C n x μ1 P) (fun x μ1 => by
  split
  · rename_i C' gs l e
    refine sat_if fun q => ?_
    subst q
    split
    · rename_i d e2
      exact sat_ok fun P R p => ⟨gs, l, d, e, e2, p⟩
    · exact sat_none
  · exact sat_none) fun _ _ p => p
def fFldS (C : Addr) (n : Str) (fx fe : FE) : FSt := fun ρ μ => eb (fe ρ μ) ρ fun y μ1 => eb (fx ρ μ1) ρ fun x μ2 => match y, x with
  | .d z, .m k => (match mins μ2 k with
    | some (C', gs) => if (decide (C' = C) && decide (gs.length < 1000)) = true then some (.nx ρ (μ2.set k (.ins C (putD n z gs)))) else none
    | none => none)
  | _, _ => none
theorem run_fldS {C : Addr} {n : Str} {dx de : DE} {fx fe : FE} (hx : RunE ga dx fx) (h : RunE ga de fe) : RunS ga (dFldSC C n dx de) (fFldS C n fx fe) := fun ρ μ => by
  refine ss_eb (h ρ μ) (fun y μ1 => ss_eb (hx ρ μ1) (w' := fun x μ2 d => FldSC C n y x μ2 fun μ3 => d.nx ρ μ3) (fun x μ2 => ?_) fun d p => p) fun d p => p
  split
  · rename_i z k
    split
    · rename_i C' gs e
      refine ss_if fun q => ss_ok fun d p => ?_
      rw [Bool.and_eq_true, decide_eq_true_iff, decide_eq_true_iff] at q
      obtain ⟨rfl, q⟩ := q
      exact ⟨k, gs, z, rfl, rfl, mins_ok e, q, p⟩
    · exact ss_none
  · exact ss_none
/-- ahead of a statement: the list that a name holds stands for good -/
def fFrz (i : Nat) (f : FSt) : FSt := fun ρ μ => match ρ[i]? with
  | some (some (.m k)) => (match mlist μ k with
    | some ds => f (ρ.map (frzW k ds)) (μ.set k .dead)
    | none => none)
  | _ => none
def dFrzV (i : Nat) (s : DSt) : DSt := fun d ρ μ => ∃ k, ρ[i]? = some (some (.m k)) ∧ dFrz k s d ρ μ
theorem sim_frzV {K : PySem.W.Frag} {Wx : WX} {i : Nat} {ts : TS} {s : DSt} (h : SimS K Wx ts s) : SimS K Wx ts (dFrzV i s) := fun ok st q e => by
  obtain ⟨k, _, q⟩ := q
  exact sim_frz (k := k) h ok st q e
theorem bs_frzV {X : Cx} {Wx : WX} {st : List Stmt} {ts : TS} {s : DSt} (i : Nat) (h : BSs X Wx st ts s) : BSs X Wx st ts (dFrzV i s) := ⟨h.ps, sim_frzV h.sim⟩
theorem run_frz {i : Nat} {s : DSt} {f : FSt} (h : RunS ga s f) : RunS ga (dFrzV i s) (fFrz i f) := fun ρ μ => by
  unfold fFrz
  split
  · rename_i k e
    split
    · rename_i ds e2
      exact (h _ _).imp fun d p => ⟨k, e, ds, e2, p⟩
    · exact ss_none
  · exact ss_none
/-! ### defs -/
def rtW (rm : Bool) (n : Nat) (x : W) (μ : Mu) : M W := match x with
  | .m k => if k < n then (if n ≤ μ.length then some (.ok (.m k) (μ.take n)) else none) else (if rm = true then (if (decide (k < μ.length) && decide (n ≤ μ.length)) = true then some (.ok (.m k) μ) else none) else match mlist μ k with
    | some ds => if n ≤ μ.length then some (.ok (.d (.lst ds)) (μ.take n)) else none
    | none => none)
  | x => if n ≤ μ.length then some (.ok x (μ.take n)) else none
/-- how a def ends -/
def fin (rm : Bool) (n : Nat) (o : Option So) : M W := match o with
  | some (.nx _ μ') => rtW rm n wn μ'
  | some (.rt x μ') => rtW rm n x μ'
  | some (.xc C gs _ μ') => if n ≤ μ'.length then some (.ex C gs (μ'.take n)) else none
  | _ => none
section
variable {rm : Bool} {n : Nat} {ρ : Rho} {μ : Mu} {x : W} {C : Str} {gs : List (Str × D)} {o o' : Option So}
theorem fin_nx : fin rm n (some (.nx ρ μ)) = rtW rm n wn μ := rfl
theorem fin_rt : fin rm n (some (.rt x μ)) = rtW rm n x μ := rfl
theorem fin_xc : fin rm n (some (.xc C gs ρ μ)) = if n ≤ μ.length then some (.ex C gs (μ.take n)) else none := rfl
theorem fin_none : fin rm n none = none := rfl
theorem fin_ite {c : Prop} [Decidable c] : fin rm n (if c then o else o') = if c then fin rm n o else fin rm n o' := by split <;> rfl
end
/-- a def with ps parameters and n names -/
def fRun (ps n : Nat) (rm : Bool) (f : FSt) : Fn := fun xs μ => if xs.length = ps then fin rm μ.length (f (startW n xs) μ) else none
theorem rtW_ok {rm : Bool} {n : Nat} {x : W} {μ : Mu} {r : Ro W} {P : PN} {R : PX} (h : rtW rm n x μ = some r) (p : Post ga P R r) : RtW n P x μ := by
  unfold rtW at h
  split at h
  · rename_i k
    split at h
    · rename_i hk
      split at h
      · rename_i hn
        cases h
        have hl : (μ.take n).length = n := by rw [List.length_take]; omega
        exact .inl ⟨_, WkM.take, by rw [hl]; exact Nat.le_refl _, by rw [hl]; exact hk, p⟩
      · cases h
    · rename_i hk
      split at h
      · split at h
        · rename_i c
          cases h
          rw [Bool.and_eq_true, decide_eq_true_iff, decide_eq_true_iff] at c
          exact .inl ⟨_, WkM.rfl', c.2, c.1, p⟩
        · cases h
      · split at h
        · rename_i ds e
          split at h
          · rename_i hn
            cases h
            have hs : (μ.set k .dead).take n = μ.take n := by
              rw [List.take_set, List.set_eq_of_length_le]
              rw [List.length_take]
              omega
            refine .inr ⟨k, ds, rfl, mlist_ok e, μ.take n, ?_, by rw [List.length_take]; omega, p⟩
            rw [← hs]
            exact WkM.take
          · cases h
        · cases h
  · rename_i hx
    split at h
    · rename_i hn
      cases h
      have hl : (μ.take n).length = n := by rw [List.length_take]; omega
      refine .inl ⟨_, WkM.take, by rw [hl]; exact Nat.le_refl _, ?_, p⟩
      cases x with
      | m k => exact absurd rfl (hx k)
      | d _ => trivial
      | b _ => trivial
    · cases h
theorem fRun_len {ps n : Nat} {rm : Bool} {f : FSt} {xs : List W} {μ : Mu} {P : PN} {R : PX} (h : fnFS ga (fRun ps n rm f) xs μ P R) : xs.length = ps := by
  obtain ⟨r, h, _⟩ := h
  unfold fRun at h
  split at h
  · assumption
  · cases h
theorem fRun_ok {ps n : Nat} {rm : Bool} {s : DSt} {f : FSt} (hs : RunS ga s f) {xs : List W} {μ : Mu} {P : PN} {R : PX} (h : fnFS ga (fRun ps n rm f) xs μ P R) : s (dnOf μ.length P R) (startW n xs) μ := by
  obtain ⟨r, h, p⟩ := h
  unfold fRun at h
  split at h
  · unfold fin at h
    split at h
    · rename_i e
      exact hs _ _ _ e _ (rtW_ok h p)
    · rename_i e
      exact hs _ _ _ e _ (rtW_ok h p)
    · rename_i C gs ρ' μ' e
      split at h
      · rename_i hn
        cases h
        exact hs _ _ _ e _ (show ∃ μ'', WkM μ' μ'' ∧ μ.length ≤ μ''.length ∧ R (ga C) gs μ'' from ⟨_, WkM.take, by rw [List.length_take]; omega, p⟩)
      · cases h
    · cases h
  · cases h
end
end FR

set_option Elab.async false
set_option linter.all false
set_option maxRecDepth 100000
set_option maxHeartbeats 4000000
/-! FR, part four: sorted, list(range(..)), sum, all, any, shifts, in. -/
namespace FR
open PySem L2 Evl DL
section
variable {ga : Str → Addr}

/-! ### sorted of ints -/
def insI (a : Int) : List Int → List Int
  | [] => [a]
  | b :: r => if a ≤ b then a :: b :: r else b :: insI a r
def sortI : List Int → List Int
  | [] => []
  | a :: r => insI a (sortI r)
theorem sorted_uniq : ∀ {a b : List Int}, a.Perm b → a.Pairwise (· ≤ ·) → b.Pairwise (· ≤ ·) → a = b
  | [], b, p, _, _ => (List.Perm.nil_eq p)
  | x :: a, [], p, _, _ => absurd p.symm (by intro h; have := h.length_eq; simp at this)
  | x :: a, y :: b, p, ha, hb => by
    have ha' := List.pairwise_cons.mp ha
    have hb' := List.pairwise_cons.mp hb
    have hx : x ∈ y :: b := p.mem_iff.mp (by simp)
    have hy : y ∈ x :: a := p.mem_iff.mpr (by simp)
    have e : x = y := by
      rcases List.mem_cons.mp hx with h | h
      · exact h
      · rcases List.mem_cons.mp hy with h' | h'
        · exact h'.symm
        · have := hb'.1 x h; have := ha'.1 y h'; omega
    subst e
    rw [sorted_uniq (List.Perm.cons_inv p) ha'.2 hb'.2]
def intsOf : List D → Option (List Int)
  | [] => some []
  | .v (.int i) :: r => (intsOf r).map (i :: ·)
  | _ => none
theorem intsOf_ok : ∀ {ds : List D} {ns : List Int}, intsOf ds = some ns → ds = ns.map D.int
  | [], ns, h => by cases h; rfl
  | .v (.int i) :: r, ns, h => by
    have h' : (intsOf r).map (i :: ·) = some ns := h
    cases q : intsOf r with
    | none => rw [q] at h'; cases h'
    | some z =>
      rw [q] at h'
      cases h'
      rw [intsOf_ok q]
      rfl
  | .v .non :: _, _, h => by cases h
  | .v (.bl _) :: _, _, h => by cases h
  | .v (.str _) :: _, _, h => by cases h
  | .v (.byt _) :: _, _, h => by cases h
  | .v (.flt _) :: _, _, h => by cases h
  | .v (.ref _) :: _, _, h => by cases h
  | .v (.ty _) :: _, _, h => by cases h
  | .tup _ :: _, _, h => by cases h
  | .lst _ :: _, _, h => by cases h
  | .scr _ :: _, _, h => by cases h
  | .obj _ _ :: _, _, h => by cases h
  | .dT _ :: _, _, h => by cases h
  | .dK _ :: _, _, h => by cases h
  | .xc _ _ _ :: _, _, h => by cases h
theorem intsOf_map : ∀ {ns : List Int}, intsOf (ns.map D.int) = some ns
  | [] => rfl
  | n :: r => by show (intsOf (r.map D.int)).map (n :: ·) = _; rw [intsOf_map]; rfl
def cSortI : FC := fun xs μ => match xs with
  | [x] => (match seqOf μ x with
    | some (ds, _) => (match intsOf ds with
      | some ns => if isLst μ x = true then some (.ok (.d (.lst ((sortI ns).map D.int))) μ) else none
      | none => none)
    | none => none)
  | _ => none
/-! ### list(range(..)) -/
def dRg1 (da : DE) : Rho → Mu → (Int → Int → Mu → Prop) → PX → Prop := fun ρ μ P R => da ρ μ (fun x μ1 => ∃ n, x = wi n ∧ P 0 n μ1) R
def rgD (a b : Int) : List D := (List.range (b - a).toNat).map fun i => D.int (a + (i : Nat))
def dLstR1 (da : DE) : DE := fun ρ μ P R => da ρ μ (fun x μ1 => ∃ n, x = wi n ∧ RgOk 0 n ∧ newLst (rgD 0 n) μ1 P) R
def dLstR2 (da db : DE) : DE := fun ρ μ P R => da ρ μ (fun x μ1 => db ρ μ1 (fun y μ2 => ∃ i j, x = wi i ∧ y = wi j ∧ RgOk i j ∧ newLst (rgD i j) μ2 P) R) R
section
variable {X : Cx} {Wx : WX} {K : PySem.W.Frag} {a b : Expr} {ta tb : TE} {da db : DE} {p p2 pos pos2 : Pos} {f : FE}
end
def rgB (a b : Int) : Bool := r62 a && (r62 b && leI (b - a) 16777216)
theorem rgB_le {a b : Int} (h : -4611686018427387904 ≤ a) (h' : a < 4611686018427387904) (h2 : -4611686018427387904 ≤ b) (h3 : b < 4611686018427387904) (h4 : b - a ≤ 16777216) : rgB a b = true := by
  unfold rgB
  rw [r62_le h h', r62_le h2 h3, leI_iff.mpr h4]
  rfl
def fLstR1 (mt : Bool) (f : FE) : FE := fun ρ μ => bd (f ρ μ) fun x μ1 => match x with
  | .d (.v (.int n)) => if rgB 0 n = true then newL mt (rgD 0 n) μ1 else none
  | _ => none
def fLstR2 (mt : Bool) (f g : FE) : FE := fun ρ μ => bd (f ρ μ) fun x μ1 => bd (g ρ μ1) fun y μ2 => match x, y with
  | .d (.v (.int i)), .d (.v (.int j)) => if rgB i j = true then newL mt (rgD i j) μ2 else none
  | _, _ => none
section
variable {X : Cx} {Wx : WX} {a b : Expr} {ta tb : TE} {da db : DE} {pos : Pos} {k : Nat}
theorem b_neDT (hr : Room k X.A) (ha : BE X Wx a ta da) (hb' : BE X Wx b tb db) (hk : behindInMarks .NotEq b = false) : BT X Wx (.Compare a [.NotEq] [b] pos) (tTest (tOp (rNeD X.K) ta tb)) (dTest (dOp dNeD da db)) := b_cmpT (op_neD hr.units) op2_neD ha hb' hk
end
section
variable {X : Cx} {Wx : WX} {K : PySem.W.Frag} {k : Nat} {f C : Addr} {ps : List Str} {fs : FS} {dvs : List V} {x : Str} {p pos apos : Pos} {e : Expr} {es : List Expr} {tA : TA} {dA : DAr}
theorem b_callk (h : OkX X k f ps dvs fs) (hr : Room k X.A) (hg : Gl X x) (hm : X.mg x = some (.ref f)) (tk : Takes X Wx) (ha : BA X Wx (e :: es) tA dA) (hK : K = X.K := by rfl)
    (h1 : (x == ("__debug__" : Str)) = false := by decide) (h2 : starEach (e :: es) X.env = (false, eval e X.env) :: starEach es X.env := by rfl) (h3 : (backTo pos (starEach es X.env)).any (·.1) = false := by rfl) :
    BE X Wx (.Call (.Name x p) (e :: es) [] pos) (tDef K fs dvs Wx tA) (dDef fs dvs dA) := by
  subst hK
  exact b_call h hr hg hm tk ha h1 h2 h3
end
end
end FR

set_option Elab.async false
set_option linter.all false
set_option maxRecDepth 100000
set_option maxHeartbeats 4000000
/-! FR, part five: loops and comprehensions, by what stands ahead of each turn. -/
namespace FR
open PySem L2 Evl DL
section
variable {g : FG} {b : FSt} {dead : List Nat} {n : Nat}
/-- no turn leaves the loop: st i stands ahead of turn i -/
theorem loop_at (st : Nat → Rho × Mu) : ∀ {xs : List W} {j : Nat}, (∀ i x, xs[i]? = some x → ∀ k, turn g b dead n x (st (j + i)).1 (st (j + i)).2 k = k (st (j + i + 1)).1 (st (j + i + 1)).2) → fLoop g b dead n xs (st j).1 (st j).2 = some (.nx (st (j + xs.length)).1 (st (j + xs.length)).2)
  | [], _, _ => rfl
  | x :: xs, j, h => by
    unfold fLoop
    have e0 := h 0 x rfl (fLoop g b dead n xs)
    rw [Nat.add_zero] at e0
    rw [e0, show j + (x :: xs).length = (j + 1) + xs.length by rw [List.length_cons]; omega]
    exact loop_at st fun i y hy k => by
      have := h (i + 1) y (by simpa using hy) k
      rw [show j + 1 + i = j + (i + 1) by omega]
      exact this
theorem loop0 (st : Nat → Rho × Mu) {xs : List W} {ρ : Rho} {μ : Mu} (h0 : (ρ, μ) = st 0) (h : ∀ i x, xs[i]? = some x → ∀ k, turn g b dead n x (st i).1 (st i).2 k = k (st (i + 1)).1 (st (i + 1)).2) : fLoop g b dead n xs ρ μ = some (.nx (st xs.length).1 (st xs.length).2) := by
  have := loop_at (g := g) (b := b) (dead := dead) (n := n) st (xs := xs) (j := 0) (fun i x hx k => by simpa using h i x hx k)
  rw [Nat.zero_add] at this
  have e1 : ρ = (st 0).1 := by rw [← h0]
  have e2 : μ = (st 0).2 := by rw [← h0]
  rw [e1, e2]
  exact this
/-- nothing changes in any turn -/
theorem loop_same {ρ : Rho} {μ : Mu} {xs : List W} (h : ∀ x ∈ xs, ∀ k, turn g b dead n x ρ μ k = k ρ μ) : fLoop g b dead n xs ρ μ = some (.nx ρ μ) :=
  loop0 (fun _ => (ρ, μ)) rfl fun i x hx k => h x (List.mem_of_getElem? hx) k
/-- turn m leaves the loop -/
theorem loop_exit (st : Nat → Rho × Mu) {r : Option So} : ∀ {xs : List W} {j m : Nat}, m < xs.length → (∀ i x, i < m → xs[i]? = some x → ∀ k, turn g b dead n x (st (j + i)).1 (st (j + i)).2 k = k (st (j + i + 1)).1 (st (j + i + 1)).2) → (∀ x, xs[m]? = some x → ∀ k, turn g b dead n x (st (j + m)).1 (st (j + m)).2 k = r) → fLoop g b dead n xs (st j).1 (st j).2 = r
  | [], _, _, hm, _, _ => by simp at hm
  | x :: xs, j, 0, _, _, h => by
    unfold fLoop
    exact h x rfl _
  | x :: xs, j, m + 1, hm, hs, h => by
    unfold fLoop
    have e0 := hs 0 x (by omega) rfl (fLoop g b dead n xs)
    rw [Nat.add_zero] at e0
    rw [e0]
    refine loop_exit st (m := m) (by simpa using hm) (fun i y hi hy k => ?_) (fun y hy k => ?_)
    · have := hs (i + 1) y (by omega) (by simpa using hy) k
      rw [show j + 1 + i = j + (i + 1) by omega]
      exact this
    · have := h y (by simpa using hy) k
      rw [show j + 1 + m = j + (m + 1) by omega]
      exact this
variable {t : FT} {e : FE} {vs : List Nat} {ρ : Rho}
/-- what an item of a comprehension gives -/
def lcTurn (g : FG) (t : FT) (e : FE) (vs : List Nat) (ρ : Rho) (n : Nat) (x : W) (μ : Mu) : Option (Option D × Mu) := match g x (wipeW ρ vs) μ with
  | none => none
  | some z => match t z.1 z.2 with
    | some (.ok true μ4) => (match e z.1 μ4 with
      | some (.ok (.d y) μ5) => if n ≤ μ5.length then some (some y, μ5.take n) else none
      | _ => none)
    | some (.ok false μ4) => if n ≤ μ4.length then some (none, μ4.take n) else none
    | _ => none
theorem lcL_cons {x : W} {xs : List W} {μ μ' : Mu} {o : Option D} (h : lcTurn g t e vs ρ n x μ = some (o, μ')) : fLcL g t e vs ρ n (x :: xs) μ = (match fLcL g t e vs ρ n xs μ' with
  | some (ys, μ6) => some (o.toList ++ ys, μ6)
  | none => none) := by
  unfold lcTurn at h
  rw [fLcL]
  cases h1 : g x (wipeW ρ vs) μ with
  | none => rw [h1] at h; cases h
  | some z =>
    rw [h1] at h
    dsimp only at h ⊢
    split at h
    · rename_i μ4 h2
      try rw [h2]
      try dsimp only
      split at h
      · rename_i y μ5 h3
        try rw [h3]
        try dsimp only
        split at h
        · rename_i hn
          cases h
          rw [if_pos hn]
          cases fLcL g t e vs ρ n xs (μ5.take n) with
          | none => rfl
          | some p => rfl
        · cases h
      · cases h
    · rename_i μ4 h2
      try rw [h2]
      try dsimp only
      split at h
      · rename_i hn
        cases h
        rw [if_pos hn]
        cases fLcL g t e vs ρ n xs (μ4.take n) with
        | none => rfl
        | some p => rfl
      · cases h
    · cases h
end
theorem rints_mem {lo : Int} {n : Nat} {x : W} (h : x ∈ rints lo n) : ∃ i : Nat, i < n ∧ x = wi (lo + (i : Nat)) := by
  unfold rints at h
  obtain ⟨i, hi, rfl⟩ := List.mem_map.mp h
  exact ⟨i, List.mem_range.mp hi, rfl⟩
/-! ### equality of plain data -/
theorem oEqD_pn {n m : Nat} {a b : D} {μ : Mu} (ha : pn n a) (hb : pn m b) (hn : n ≤ 64) (hm : m ≤ 64) : oEqD (.d a) (.d b) μ = some (.ok (wb (eqB a b)) μ) := by
  obtain ⟨x, x1, x2, x3⟩ := pyD_pl (pn_pl ha)
  obtain ⟨y, y1, y2, y3⟩ := pyD_pl (pn_pl hb)
  have e1 : pyW μ (.d a) = some x := x1
  have e2 : pyW μ (.d b) = some y := y1
  have e : PyData.eqv x y = eqB a b := by
    rw [Bool.eq_iff_iff, eqv_pn ha hb x1 y1, eqB_iff]
  unfold oEqD
  rw [e1, e2]
  dsimp only
  rw [shaped_pl x2 x3 hn, shaped_pl y2 y3 hm, e]
  rfl
theorem oNeD_pn {n m : Nat} {a b : D} {μ : Mu} (ha : pn n a) (hb : pn m b) (hn : n ≤ 64) (hm : m ≤ 64) : oNeD (.d a) (.d b) μ = some (.ok (wb (!eqB a b)) μ) := by
  obtain ⟨x, x1, x2, x3⟩ := pyD_pl (pn_pl ha)
  obtain ⟨y, y1, y2, y3⟩ := pyD_pl (pn_pl hb)
  have e1 : pyW μ (.d a) = some x := x1
  have e2 : pyW μ (.d b) = some y := y1
  have e : PyData.eqv x y = eqB a b := by
    rw [Bool.eq_iff_iff, eqv_pn ha hb x1 y1, eqB_iff]
  unfold oNeD
  rw [e1, e2]
  dsimp only
  rw [shaped_pl x2 x3 hn, shaped_pl y2 y3 hm, e]
  rfl
end FR

set_option Elab.async false
set_option linter.all false
set_option maxRecDepth 100000
set_option maxHeartbeats 4000000
/-! FR, part six: texts, raise, try, what is asked of a caught exception. -/
namespace FR
open PySem L2 Evl DL
section
variable {ga : Str → Addr}
theorem str_inj {a b : String} : (Str.ofString a = Str.ofString b) = (a = b) := by
  apply propext
  constructor
  · intro h
    rw [Str.ofString_eq_toList, Str.ofString_eq_toList] at h
    have h1 : (a.toList.map Char.toNat).toArray = (b.toList.map Char.toNat).toArray := by injection h
    have h2 : a.toList.map Char.toNat = b.toList.map Char.toNat := by simpa using h1
    have h3 : a.toList = b.toList := (List.map_inj_right (fun x y e => by
      apply Char.ext
      have e' : x.val.toNat = y.val.toNat := e
      exact UInt32.toNat_inj.mp e')).mp h2
    exact String.toList_inj.mp h3
  · intro h
    rw [h]
def lkS {α : Type} (n : Str) : List (Str × α) → Option α
  | [] => none
  | (a, b) :: r => if n = a then some b else lkS n r
/-! ### raise -/
def fRaise0 (n : Str) : FSt := fun ρ μ => some (.xc n [] ρ μ)
theorem run_raise0 {n : Str} : RunS ga (dRaise0 (ga n)) (fRaise0 n) := fun ρ μ => ss_ok fun d p => p
def fRaiseO (n : Str) (fl : List Str) (f : FA) : FSt := fun ρ μ => eb (f ρ μ) ρ fun xs μ' => match alls xs with
  | some ds => if ds.length = fl.length then some (.xc n (fl.zip ds).reverse ρ μ') else none
  | none => none
theorem run_raiseO {n : Str} {fl : List Str} {dA : DAr} {f : FA} (h : RunA ga dA f) : RunS ga (dRaiseO (ga n) fl dA) (fRaiseO n fl f) := fun ρ μ => by
  refine ss_eb (h ρ μ) (w' := fun xs μ' d => Got (alls xs) fun ds => ds.length = fl.length ∧ d.xc (ga n) (fl.zip ds).reverse ρ μ') (fun xs μ' => ?_) fun d p => p
  split
  · rename_i ds e
    exact ss_if fun q => ss_ok fun d p => ⟨ds, e, q, p⟩
  · exact ss_none
/-! ### try -/
/-- one answer, whatever the exception's place is -/
noncomputable def allv (f : Addr → Option Addr → Option So) : Option So := @dite _ (∃ r, ∀ a o, f a o = some r) (Classical.propDecidable _) (fun h => some h.choose) (fun _ => none)
theorem allv_of {f : Addr → Option Addr → Option So} {r : So} (h : ∀ a o, f a o = some r) : allv f = some r := by
  unfold allv
  have e : ∃ r, ∀ a o, f a o = some r := ⟨r, h⟩
  rw [dif_pos e]
  have h2 := e.choose_spec (0 : Nat) none
  rw [h (0 : Nat) none] at h2
  exact h2.symm
theorem allv_some {r : So} : allv (fun _ _ => some r) = some r := allv_of fun _ _ => rfl
/-- a suite's end: the name of the exception is gone -/
def gone (i : Nat) (o : Option So) : Option So := match o with
  | some (.nx ρ μ) => some (.nx (ρ.set i none) μ)
  | some (.bk ρ μ) => some (.bk (ρ.set i none) μ)
  | some (.ct ρ μ) => some (.ct (ρ.set i none) μ)
  | some (.rt x μ) => some (.rt x μ)
  | _ => none
def calm (o : Option So) : Option So := match o with
  | some (.xc _ _ _ _) => none
  | o => o
section
variable {i : Nat} {ρ : Rho} {μ : Mu} {x : W} {C : Str} {gs : List (Str × D)} {o o' : Option So}
theorem gone_nx : gone i (some (.nx ρ μ)) = some (.nx (ρ.set i none) μ) := rfl
theorem gone_rt : gone i (some (.rt x μ)) = some (.rt x μ) := rfl
theorem gone_bk : gone i (some (.bk ρ μ)) = some (.bk (ρ.set i none) μ) := rfl
theorem gone_ct : gone i (some (.ct ρ μ)) = some (.ct (ρ.set i none) μ) := rfl
theorem gone_ite {c : Prop} [Decidable c] : gone i (if c then o else o') = if c then gone i o else gone i o' := by split <;> rfl
theorem calm_nx : calm (some (.nx ρ μ)) = some (.nx ρ μ) := rfl
theorem calm_rt : calm (some (.rt x μ)) = some (.rt x μ) := rfl
theorem calm_bk : calm (some (.bk ρ μ)) = some (.bk ρ μ) := rfl
theorem calm_ct : calm (some (.ct ρ μ)) = some (.ct ρ μ) := rfl
theorem calm_ite {c : Prop} [Decidable c] : calm (if c then o else o') = if c then calm o else calm o' := by split <;> rfl
end
abbrev FSu := Str → Addr → Option Addr → FSt
/-- behind a body: what it raised is caught by the classes of the table -/
noncomputable def fCatch (tab : List (Str × Bool)) (g : Str → List (Str × D) → Rho → Mu → Option So) (o : Option So) : Option So := match o with
  | some (.xc n fs ρ1 μ1) => (match lkS n tab with
    | some true => g n fs ρ1 μ1
    | some false => some (.xc n fs ρ1 μ1)
    | none => none)
  | o => o
section
variable {tab : List (Str × Bool)} {g : Str → List (Str × D) → Rho → Mu → Option So} {ρ : Rho} {μ : Mu} {x : W} {n : Str} {fs : List (Str × D)} {o o' : Option So}
theorem catch_nx : fCatch tab g (some (.nx ρ μ)) = some (.nx ρ μ) := rfl
theorem catch_rt : fCatch tab g (some (.rt x μ)) = some (.rt x μ) := rfl
theorem catch_bk : fCatch tab g (some (.bk ρ μ)) = some (.bk ρ μ) := rfl
theorem catch_ct : fCatch tab g (some (.ct ρ μ)) = some (.ct ρ μ) := rfl
theorem catch_xc : fCatch tab g (some (.xc n fs ρ μ)) = (match lkS n tab with
    | some true => g n fs ρ μ
    | some false => some (.xc n fs ρ μ)
    | none => none) := rfl
theorem catch_none : fCatch tab g none = none := rfl
theorem catch_ite {c : Prop} [Decidable c] : fCatch tab g (if c then o else o') = if c then fCatch tab g o else fCatch tab g o' := by split <;> rfl
end
noncomputable def fTryAs (tab : List (Str × Bool)) (i : Nat) (f : FSt) (s : FSu) : FSt := fun ρ μ => fCatch tab (fun n fs ρ1 μ1 => allv fun a o => gone i (s n a o (ρ1.set i (some (.d (.xc a o fs)))) μ1)) (f ρ μ)
noncomputable def fTryOnly (tab : List (Str × Bool)) (f : FSt) (s : FSu) : FSt := fun ρ μ => fCatch tab (fun n fs ρ1 μ1 => allv fun a o => calm (s n a o ρ1 μ1)) (f ρ μ)
/-! ### a caught exception -/
def fXa (a : Addr) (o : Option Addr) (n m f : Str) (g : FE) : FE := fun ρ μ => bd (g ρ μ) fun x μ' => match x with
  | .d (.xc a' o' fs) => if a' = a ∧ o' = o ∧ n = m then (match lkS f fs with
    | some y => some (.ok (.d y) μ')
    | none => none) else none
  | _ => none
theorem lookup_lkS {f : Str} : ∀ {fs : List (Str × D)}, fs.lookup f = lkS f fs
  | [] => rfl
  | (g, d) :: r => by
    rw [List.lookup_cons, lkS, lookup_lkS]
    by_cases q : f = g
    · rw [if_pos q, show (f == g) = true from beq_iff_eq.mpr q]
    · rw [if_neg q, show (f == g) = false from beq_eq_false_iff_ne.mpr q]
def cIsX (a : Addr) (o : Option Addr) (n : Str) (c : V) (tab : List (Str × Bool)) : FC := fun xs μ => match xs with
  | [.d (.xc a' o' _), .d (.v c')] => if a' = a ∧ o' = o ∧ c' = c then (match lkS n tab with
    | some b => some (.ok (wb b) μ)
    | none => none) else none
  | _ => none
end
end FR

set_option Elab.async false
set_option linter.all false
set_option maxRecDepth 100000
set_option maxHeartbeats 4000000
/-! FR, part seven: classes of the program's own. -/
namespace FR
open PySem L2 Evl DL
section
variable {ga : Str → Addr}
/-- a call by data: nothing changes -/
def pcall (F : Fn) (ds : List D) (μ : Mu) : M W := match F (ds.map .d) [] with
  | some (.ok (.d y) []) => some (.ok (.d y) μ)
  | some (.ex n fs []) => some (.ex n fs μ)
  | _ => none
def preX (F : Fn) (ds : List D) : Prop := (∃ y, F (ds.map .d) [] = some (.ok (.d y) [])) ∨ ∃ n fs, F (ds.map .d) [] = some (.ex n fs [])
def outX (ga : Str → Addr) (F : Fn) (ds : List D) : XR := match F (ds.map .d) [] with
  | some (.ok (.d y) _) => .ok y
  | some (.ex n fs _) => .error (ga n, fs)
  | _ => .ok (.v .non)
def preV (F : Fn) (ds : List D) : Prop := ∃ y, F (ds.map .d) [] = some (.ok (.d y) [])
def outV (F : Fn) (ds : List D) : D := match F (ds.map .d) [] with
  | some (.ok (.d y) _) => y
  | _ => .v .non
def preB (F : Fn) (ds : List D) : Prop := ∃ b, F (ds.map .d) [] = some (.ok (.d (.v (.bl b))) [])
def outB (F : Fn) (ds : List D) : Bool := match F (ds.map .d) [] with
  | some (.ok (.d (.v (.bl b))) _) => b
  | _ => false
theorem okFS_imp {P : Program} {w : World} {K : PySem.W.Frag} {mg : Str → Option Value} {base : Heap} {k : Nat} {f : Addr} {ps : List Str} {dvs : List V} {fs fs' : FS} (i : ∀ xs μ P R, fs' xs μ P R → fs xs μ P R) (h : Ok P w K mg base k f ps dvs fs) : Ok P w K mg base k f ps dvs fs' := by
  obtain ⟨fd, ds, F, hb, hd, hk⟩ := h.ex
  refine ⟨fd, ds, ⟨fun vs H Q E q => ?_, fun A outer s H args us vs Q E hr he hb' hv q => ?_⟩, hb, hd, hk⟩
  · obtain ⟨w, μ, xs, P, R, a, b, c, q, d⟩ := q
    exact F.len vs H Q E ⟨w, μ, xs, P, R, a, b, c, i _ _ _ _ q, d⟩
  · obtain ⟨w, μ, xs, P, R, a, b, c, q, d⟩ := q
    exact F.run A outer s H args us vs Q E hr he hb' hv ⟨w, μ, xs, P, R, a, b, c, i _ _ _ _ q, d⟩
section
variable {P : Program} {w : World} {K : PySem.W.Frag} {mg : Str → Option Value} {base : Heap} {k : Nat} {f : Addr} {ps : List Str} {dvs : List V} {F : Fn}
theorem ok_X (h : Ok P w K mg base k f ps dvs (fnFS ga F)) : Ok P w K mg base k f ps dvs (purX (preX F) (outX ga F)) := okFS_imp (fun xs μ P R q => by
  obtain ⟨ds, rfl, hp, rfl, g⟩ := q
  unfold outX at g
  rcases hp with ⟨y, e⟩ | ⟨n, fs, e⟩
  · rw [e] at g
    exact ⟨_, e, g⟩
  · rw [e] at g
    exact ⟨_, e, g⟩) h
end
theorem sat_pcall {F : Fn} {ds : List D} {μ : Mu} : Sat ga (pcall F ds μ) (fun P R => preX F ds ∧ gives (outX ga F ds) (fun z => P (.d z) μ) (fun E es => R E es μ)) := by
  unfold pcall
  split
  · rename_i y e
    exact sat_ok fun P R p => ⟨.inl ⟨y, e⟩, by unfold outX; rw [e]; exact p⟩
  · rename_i n fs e
    intro r h P R p
    cases h
    exact ⟨.inr ⟨n, fs, e⟩, by unfold outX; rw [e]; exact p⟩
  · exact sat_none
/-- o[i] -/
def fGet (C : Addr) (F : Fn) (fa fb : FE) : FE := fun ρ μ => bd (fa ρ μ) fun x μ1 => bd (fb ρ μ1) fun y μ2 => match x, y with
  | .d (.obj C' gs), .d z => if C' = C then pcall F [.obj C gs, z] μ2 else none
  | _, _ => none
/-- o.m(..), o(..) -/
def isO (C : Addr) : W → Option (List (Str × D))
  | .d (.obj C' gs) => if C' = C then some gs else none
  | _ => none
theorem isO_ok {C : Addr} {x : W} {gs : List (Str × D)} (h : isO C x = some gs) : x = .d (.obj C gs) := by
  unfold isO at h
  split at h
  · split at h
    · rename_i q
      cases h
      rw [q]
    · cases h
  · cases h
def fMet (C : Addr) (m : Str) (F : Fn) (dvs : List V) (fx : FE) (fa : FA) : FE := fun ρ μ => bd (fx ρ μ) fun x μ1 => match isO C x with
  | some gs => if (gs.lookup m).isNone = true then bd (fa ρ μ1) (fun xs μ2 => match alls (xs ++ dws dvs) with
    | some ds => pcall F (.obj C gs :: ds) μ2
    | none => none) else none
  | none => none
theorem run_met {C : Addr} {m : Str} {F : Fn} {dvs : List V} {dx : DE} {da : DAr} {fx : FE} {fa : FA} (hx : RunE ga dx fx) (ha : RunA ga da fa) : RunE ga (dMetX C m (preX F) (outX ga F) dvs dx da) (fMet C m F dvs fx fa) := fun ρ μ => sat_bd (hx ρ μ) (w' := fun x μ1 P R => (∃ gs, x = W.d (D.obj C gs) ∧ gs.lookup m = none) ∧ da ρ μ1 (fun xs μ2 => CallX C (preX F) (outX ga F) x (xs ++ dws dvs) μ2 P R) R) (fun x μ1 => by
  split
  · rename_i gs e
    have e' := isO_ok e
    subst e'
    refine sat_if fun q => ?_
    refine (sat_bd (ha ρ μ1) (w' := fun xs μ2 P R => CallX C (preX F) (outX ga F) (.d (.obj C gs)) (xs ++ dws dvs) μ2 P R) (fun xs μ2 => ?_) fun _ _ p => p).imp fun P R p => ⟨⟨gs, rfl, Option.isNone_iff_eq_none.mp q⟩, p⟩
    split
    · rename_i ds e
      exact sat_pcall.imp fun P R p => ⟨gs, rfl, ds, e, p.1, p.2⟩
    · exact sat_none
  · exact sat_none) fun _ _ p => p
def fCallO (C : Addr) (F : Fn) (fx : FE) (fa : FA) : FE := fun ρ μ => bd (fx ρ μ) fun x μ1 => match isO C x with
  | some gs => bd (fa ρ μ1) (fun xs μ2 => match alls xs with
    | some ds => pcall F (.obj C gs :: ds) μ2
    | none => none)
  | none => none
/-- a op b of two instances -/
def onlyO (C : Addr) (r : M W) : M W := match r with
  | some (.ok (.d (.obj C' q)) μ) => if C' = C then some (.ok (.d (.obj C q)) μ) else none
  | some (.ex n fs μ) => some (.ex n fs μ)
  | _ => none
def fOwn (C : Addr) (F : Fn) (fa fb : FE) : FE := fun ρ μ => bd (fa ρ μ) fun x μ1 => bd (fb ρ μ1) fun y μ2 => match isO C x, isO C y with
  | some gs, some hs => onlyO C (pcall F [.obj C gs, .obj C hs] μ2)
  | _, _ => none
/-- a call that only answers -/
def vcall (F : Fn) (ds : List D) (μ : Mu) : M W := match F (ds.map .d) [] with
  | some (.ok (.d y) []) => some (.ok (.d y) μ)
  | _ => none
def fNeg (C : Addr) (F : Fn) (fa : FE) : FE := fun ρ μ => bd (fa ρ μ) fun x μ1 => match isO C x with
  | some gs => vcall F [.obj C gs] μ1
  | none => none
def vcallO (C : Addr) (F : Fn) (ds : List D) (μ : Mu) : M W := match F (ds.map .d) [] with
  | some (.ok (.d (.obj C' q)) []) => if C' = C then some (.ok (.d (.obj C q)) μ) else none
  | _ => none
def fOwnI (C : Addr) (F : Fn) (fa fb : FE) : FE := fun ρ μ => bd (fa ρ μ) fun x μ1 => bd (fb ρ μ1) fun y μ2 => match isO C x, y with
  | some gs, .d (.v (.int i)) => vcallO C F [.obj C gs, .v (.int i)] μ2
  | _, _ => none
def oRefl (C : Addr) (F : Fn) : F2 := fun x y μ => match x, isO C y with
  | .d (.v (.int i)), some gs => vcallO C F [.obj C gs, .v (.int i)] μ
  | _, _ => none
/-- == by the class's own -/
def bcall (F : Fn) (ds : List D) (μ : Mu) : M W := match F (ds.map .d) [] with
  | some (.ok (.d (.v (.bl b))) []) => some (.ok (wb b) μ)
  | _ => none
def oEqO (C : Addr) (F : Fn) : F2 := fun x y μ => match x, y with
  | .d (.obj C' gs), .d (.obj C2 hs) => if C' = C ∧ C2 = C then bcall F [.obj C gs, .obj C hs] μ else none
  | .d (.obj C' gs), .d (.tup us) => if C' = C then bcall F [.obj C gs, .tup us] μ else none
  | .d (.tup us), .d (.obj C' gs) => if C' = C then bcall F [.obj C gs, .tup us] μ else none
  | _, _ => none
/-- a field, whichever of some classes the instance has -/
def fFldA (Cs : List Addr) (n : Str) (f : FE) : FE := fun ρ μ => bd (f ρ μ) fun x μ1 => match insOf μ1 x with
  | some (C', gs, l) => if C' ∈ Cs then (match lkS n gs with
    | some d => some (.ok (item l d) μ1)
    | none => none) else none
  | none => none
end
end FR
namespace FR
open PySem L2 Evl DL
section
variable {X : Cx} {Wx : WX} {K : PySem.W.Frag} {k : Nat} {f g C : Addr} {ps : List Str} {fs : FS} {dvs : List V} {x : Str} {p pos apos : Pos} {e a b : Expr} {es : List Expr} {tA : TA} {dA : DAr} {ta tb : TE} {da db : DE} {pre : List D → Prop} {out : List D → D} {outB : List D → Bool}
theorem b_eqDk (hr : Room k X.A) (ha : BE X Wx a ta da) (hb' : BE X Wx b tb db) (hk : behindInMarks .Eq b = false) (hK : K = X.K := by rfl) : BE X Wx (.Compare a [.Eq] [b] pos) (tOp (rEqD K) ta tb) (dOp dEqD da db) := by
  subst hK
  exact b_eqD hr ha hb' hk
theorem b_eqDTk (hr : Room k X.A) (ha : BE X Wx a ta da) (hb' : BE X Wx b tb db) (hk : behindInMarks .Eq b = false) (hK : K = X.K := by rfl) : BT X Wx (.Compare a [.Eq] [b] pos) (tTest (tOp (rEqD K) ta tb)) (dTest (dOp dEqD da db)) := by
  subst hK
  exact b_eqDT hr ha hb' hk
theorem b_neDTk (hr : Room k X.A) (ha : BE X Wx a ta da) (hb' : BE X Wx b tb db) (hk : behindInMarks .NotEq b = false) (hK : K = X.K := by rfl) : BT X Wx (.Compare a [.NotEq] [b] pos) (tTest (tOp (rNeD K) ta tb)) (dTest (dOp dNeD da db)) := by
  subst hK
  exact b_neDT hr ha hb' hk
theorem b_shl (ha : BE X Wx a ta da) (hb : BE X Wx b tb db) : BE X Wx (.BinOp a .LShift b pos) (tOp (rI CPow fun i j => .int (i * 2 ^ j.toNat)) ta tb) (dOp (dI CPow fun i j => .int (i * 2 ^ j.toNat)) da db) := b_op op_shl op2_I ha hb
end
def oShl : F2 := oI cPow fun i j => .int (i * 2 ^ j.toNat)
theorem run_shl {ga : Str → Addr} : Run2 ga (dI CPow fun i j => .int (i * 2 ^ j.toNat)) oShl := run_I fun i j h => by
  unfold cPow at h
  rw [Bool.and_eq_true, Bool.and_eq_true, leI_iff, leI_iff, blt_iff] at h
  exact h
end FR

set_option Elab.async false
set_option linter.all false
set_option maxRecDepth 100000
set_option maxHeartbeats 4000000
/-! FR, part eight: static methods by their class, defaults. -/
namespace FR
open PySem L2 Evl DL
/-- C.m is a staticmethod: its record at p, its def at g -/
structure CStat (K : PySem.W.Frag) (C : Addr) (mc : Value) (m : Str) (p g : Addr) : Prop where
  at_ : PySem.W.findCls K (.ref C) mc m = some (.get (.builtin "staticmethod.__get__") (.ref p) .none (.ref C))
  rc : ∃ rest, PySem.W.recIn K p "staticmethod" = some (.ref g :: rest)
theorem cread_ok {K : PySem.W.Frag} {C : Addr} (h : PySem.W.readsIn K C (.type "type") = true) : ClX.CRead K C (.type "type") := by
  refine ⟨h, ?_⟩
  unfold PySem.W.readsIn at h
  obtain ⟨h, _⟩ := He.ba h
  obtain ⟨h, _⟩ := He.ba h
  obtain ⟨h, h3⟩ := He.ba h
  obtain ⟨_, h2⟩ := He.ba h
  unfold PySem.W.specialIn
  rw [beq_iff_eq.mp h2, Option.bind_some]
  exact beq_iff_eq.mp h3
section
variable {X : Cx} {pins : List (Addr × Obj)} {σ : L2.St} {H : Hp} {s : Shared} {C p g : Addr} {mc : Value} {m : Str} {A : Around} {E : Value → Shared → Prop}
end
section
variable {X : Cx} {Wx : WX} {K : PySem.W.Frag} {k : Nat} {f C q : Addr} {mc : Value} {m : Str} {fd : FuncData} {ps : List Str} {fs : FS} {dvs : List V} {ds : List Value} {x : Str} {np pos apos : Pos} {e : Expr} {es : List Expr} {t tA : TA} {dA : DAr} {pl : Sem Bool}
end
section
variable {P : Program} {w : World} {K : PySem.W.Frag} {mg : Str → Option Value} {base : Heap} {k : Nat} {f : Addr} {ps N : List Str} {fs : FS}
/-- a def with defaults: the first n parameters are written -/
theorem ok_fnD {x qual : Str} {params : Arguments} {body : List Stmt} {scope : Scope} {dvs : List V} {fd : FuncData} (F : FunD K x qual params body scope dvs [] f fd) (S : FnScope N ps scope) (n j : Nat) (hd : dvs ≠ []) (hn : n + (dvs.length - j) = ps.length)
    (hb : ∀ (T : Addr) (kV doc pm : Value) (an : Option Addr) (cdv ct : Value) (us its : List Value), us.length = n → its.length = dvs.length →
      ∃ k, bindArgs (PySem.W.fnOf x qual params body scope (.ref T) kV doc pm an cdv ct) ⟨us, []⟩ = seqItems? (.ref T) >>= k ∧ k (some its.toArray) = pure (ps.zip (us ++ its.drop j)))
    (len : ∀ xs μ P R, fs xs μ P R → xs.length = ps.length)
    (bd : ∀ (cdv : Value) (A : Around) (outer : List Env) (s : Shared) (H : Hp) (E : XK), Room k (A.deeper (PyProof.Rows.envOfC qual scope s.heap.objs.size f cdv)) →
      ∃ ts ds, BSs (cxOf (L2.CX P w) P w K mg base N qual scope f cdv A outer s H E) (WxOf E) body ts ds ∧ ∀ xs μ P R, fs xs μ P R → ds (dnOf μ.length P R) (startW N.length xs) μ) : Ok P w K mg base (k + 1) f ps (dvs.drop j) fs := by
  obtain ⟨ds, h1, h2⟩ := F.binds1 n j hd hn hb
  exact ⟨fd, ds, fn_dd F S len bd, h2, h1, F.kp⟩
end
end FR

set_option Elab.async false
set_option linter.all false
set_option maxRecDepth 100000
set_option maxHeartbeats 4000000
/-! FR, part nine: calls with keywords. -/
namespace FR
open PySem L2 Evl DL
section
variable {K : PySem.W.Frag} {x qual : Str} {params : Arguments} {body : List Stmt} {scope : Scope} {dvs : List V} {kws : List (Str × V)} {f : Addr} {fd : FuncData} {ps : List Str}
end
structure OkK (P : Program) (w : World) (K : PySem.W.Frag) (mg : Str → Option Value) (base : Heap) (k : Nat) (f : Addr) (ps : List Str) (n : Nat) (ks : List Str) (dvs : List V) (fs : FS) : Prop where
  ex : ∃ fd its, FnD P w K mg base k f fd ps fs ∧ KBn K fd ps n ks (fun us ws => us ++ ws ++ its) (fun vs zs => vs ++ zs ++ dvs) ∧ PySem.W.keepIn K (.ref f) = true
def tDefK (K : PySem.W.Frag) (n m : Nat) (fs : FS) (dvs : List V) (Wx : WX) (t tk : TA) : TE := fun σ H Q => t σ H fun vs H1 => tk σ H1 fun zs H2 => vs.length = n ∧ zs.length = m ∧ toSp K fs (vs ++ zs ++ dvs) H2 Q (XkOf Wx σ)
def dDefK (n m : Nat) (fs : FS) (dvs : List V) (da dk : DAr) : DE := fun ρ μ P R => da ρ μ (fun xs μ1 => dk ρ μ1 (fun zs μ2 => xs.length = n ∧ zs.length = m ∧ CallW fs (xs ++ zs ++ dws dvs) μ2 P R) R) R
structure BK (X : Cx) (Wx : WX) (kws : List Keyword) (ta : TA) (da : DAr) : Prop where
  pk : PK X kws ta
  sim : SimA X.K Wx ta da
section
variable {X : Cx} {Wx : WX} {K : PySem.W.Frag} {k n : Nat} {f C q : Addr} {mc : Value} {m : Str} {fd : FuncData} {ps ks : List Str} {fs : FS} {dvs : List V} {its : List Value} {x : Str} {np p pos apos kpos : Pos} {e : Expr} {es : List Expr} {kws : List Keyword} {t tk tA : TA} {dA dk : DAr} {te : TE} {de : DE} {nm : Option Str} {pl : Sem Bool}
end
section
variable {P : Program} {w : World} {K : PySem.W.Frag} {mg : Str → Option Value} {base : Heap} {k : Nat} {f : Addr} {ps N : List Str} {fs : FS}
end
def fDefK (ms : List Bool) (n m : Nat) (F : Fn) (dvs : List V) (f g : FA) : FE := fun ρ μ => bd (f ρ μ) fun xs μ1 => bd (g ρ μ1) fun zs μ2 => if xs.length = n ∧ zs.length = m then fCallW ms F (xs ++ zs ++ dws dvs) μ2 else none
end FR

set_option Elab.async false
set_option linter.all false
set_option maxRecDepth 100000
set_option maxHeartbeats 4000000
/-! FR, part ten: texts walked and counted, bool(..), isinstance of own classes. -/
namespace FR
open PySem L2 Evl DL
/-! ### x.count(y) -/
def dSCount (dx dy : DE) : DE := fun ρ μ P R => dx ρ μ (fun x μ1 => ∃ a, x = ws a ∧ dy ρ μ1 (fun y μ2 => ∃ b, y = ws b ∧ P (wi (Txt.count a b)) μ2) R) R
def rSCount : V → List V → Hp → VK → Prop := fun x xs H Q => ∃ a b, x = .str a ∧ xs = [.str b] ∧ Q (.int (Txt.count a b)) H
section
variable {X : Cx} {Wx : WX} {K : PySem.W.Frag} {o e : Expr} {to te : TE} {dx de : DE} {apos cpos : Pos} {ga : Str → Addr}
def fSCount (f g : FE) : FE := fun ρ μ => bd (f ρ μ) fun x μ1 => match x with
  | .d (.v (.str a)) => bd (g ρ μ1) (fun y μ2 => match y with
    | .d (.v (.str b)) => some (.ok (wi (Txt.count a b)) μ2)
    | _ => none)
  | _ => none
end
/-! ### bool(x) -/
def dBool : DC := fun xs μ P _ => (∃ i, xs = [wi i] ∧ P (wb (i != 0)) μ) ∨ ∃ k, xs = [wb k] ∧ P (wb k) μ
def cBool : FC := fun xs μ => match xs with
  | [.d (.v (.bl k))] => some (.ok (wb k) μ)
  | [.d (.v (.int i))] => some (.ok (wb (i != 0)) μ)
  | _ => none
/-! ### for c in a text -/
def signsW (z : Str) : List W := z.cps.toList.map fun c => ws ⟨#[c]⟩
def dIStr (de : DE) : DI := fun ρ μ P R => de ρ μ (fun x μ' => ∃ z, x = ws z ∧ P (signsW z) μ') R
section
variable {K : PySem.W.Frag} {Wx : WX} {X : Cx} {e tg : Expr} {te : TE} {de : DE} {ga : Str → Addr}
def iSigns (f : FE) : FI := fun ρ μ => bd (f ρ μ) fun x μ' => match x with
  | .d (.v (.str z)) => some (.ok (signsW z) μ')
  | _ => none
end
/-! ### isinstance(x, C), C an own class -/
def cIsiC (C : Addr) (tb : List (String × Bool)) (to : List (Addr × Bool)) : FC := fun xs μ => match xs with
  | [x, .d (.v (.ref C'))] => if C' = C then (match tyW μ x with
    | some (.type n) => (match tb.lookup n with
      | some b => some (.ok (wb b) μ)
      | none => none)
    | some (.ref A) => (match to.find? (fun p => decide (p.1 = A)) with
      | some p => some (.ok (wb p.2) μ)
      | none => none)
    | _ => none) else none
  | _ => none
end FR

set_option Elab.async false
set_option linter.all false
set_option maxRecDepth 100000
set_option maxHeartbeats 4000000
/-! FR, part eleven: a list times an int. -/
namespace FR
open PySem L2 Evl DL
/-! ### x += e, x -= e, of ints -/
theorem b_augA {X : Cx} {Wx : WX} {e : Expr} {te : TE} {de : DE} {pos pos' : Pos} {x : Str} (i : Nat) (hN : X.N.Nodup) (hi : X.N[i]? = some x) (hx : Loc X.env.scope x) (he : BE X Wx e te de) (hf : X.fn x = true ∨ X.env.scope.names.lookup x = some .local := by first | exact .inl rfl | exact .inr rfl | assumption) : BS X Wx (.AugAssign (.Name x pos') .Add e pos) (tAug i te (ipI fun i j => i + j)) (dAug i (fun i j => i + j) de) := ⟨ps_aug hN hi hx he.pe ip_add hf, sim_aug he.sim⟩
theorem b_augS {X : Cx} {Wx : WX} {e : Expr} {te : TE} {de : DE} {pos pos' : Pos} {x : Str} (i : Nat) (hN : X.N.Nodup) (hi : X.N[i]? = some x) (hx : Loc X.env.scope x) (he : BE X Wx e te de) (hf : X.fn x = true ∨ X.env.scope.names.lookup x = some .local := by first | exact .inl rfl | exact .inr rfl | assumption) : BS X Wx (.AugAssign (.Name x pos') .Sub e pos) (tAug i te (ipI fun i j => i - j)) (dAug i (fun i j => i - j) de) := ⟨ps_aug hN hi hx he.pe ip_sub hf, sim_aug he.sim⟩
/-! ### a tuple times an int -/
def dRepT : D2 := fun x y μ P _ => ∃ ds k, x = .d (.tup ds) ∧ y = wi k ∧ ds ≠ [] ∧ 2 ≤ k ∧ k ≤ 1000 ∧ ds.length ≤ 1000 ∧ P (.d (.tup (List.replicate k.toNat ds).flatten)) μ
section
variable {ga : Str → Addr}
def oRepT : F2 := fun x y μ => match x, y with
  | .d (.tup (d :: ds)), .d (.v (.int k)) => if (leI 2 k && leI k 1000 && leI ((d :: ds).length : Nat) 1000) = true then some (.ok (.d (.tup (List.replicate k.toNat (d :: ds)).flatten)) μ) else none
  | _, _ => none
def oRep (mt : Bool) : F2 := fun x y μ => match lstOf μ x with
  | some ds => match y with
    | .d (.v (.int k)) => if (leI 0 k && leI k 1000000 && smallB (ds.length * k.toNat)) = true then newL mt (List.replicate k.toNat ds).flatten μ else none
    | _ => none
  | none => none
theorem run_rep {mt : Bool} : Run2 ga dMul (oRep mt) := fun x y μ => by
  unfold oRep
  split
  · rename_i ds e
    split
    · rename_i k
      refine sat_if fun q => ?_
      rw [Bool.and_eq_true, Bool.and_eq_true, leI_iff, leI_iff] at q
      exact run_newL.imp fun P R p => .inr ⟨ds, k, e, rfl, q.1.1, q.1.2, smallB_ok q.2, p⟩
    · exact sat_none
  · exact sat_none
end
end FR

set_option Elab.async false
set_option linter.all false
set_option maxRecDepth 100000
set_option maxHeartbeats 4000000
/-! FR, part twelve: range with a step upwards. -/
namespace FR
open PySem L2 Evl DL
def rintsC (lo c : Int) (n : Nat) : List W := (List.range n).map fun i => wi (lo + (i : Nat) * c)
theorem rintsC_len {lo c : Int} {n : Nat} : (rintsC lo c n).length = n := by simp [rintsC]
theorem rintsC_get {lo c : Int} {n i : Nat} {x : W} (h : (rintsC lo c n)[i]? = some x) : x = wi (lo + (i : Nat) * c) ∧ i < n := by
  unfold rintsC at h
  rw [List.getElem?_map] at h
  by_cases hi : i < n
  · rw [List.getElem?_range hi] at h
    cases h
    exact ⟨rfl, hi⟩
  · rw [List.getElem?_eq_none (by simp; omega)] at h
    cases h
section
variable {K : PySem.W.Frag} {Wx : WX} {ga : Str → Addr}
theorem dw_rangeC {w : Wd} {lo c : Int} {n : Nat} : DWalk K w (Itc lo c n) (rintsC lo c n) := ⟨⟨_, _, by rw [rintsC_len]; exact walk_rangeC, fun _ _ _ _ => trivial, fun i x w' μ' v H' ex s' ok' y => by
  obtain ⟨rfl, rfl⟩ := y
  obtain ⟨rfl, _⟩ := rintsC_get ex
  exact ⟨w', .refl _, ok', rfl, .imm⟩⟩⟩
def upC (i j c : Int) : Bool := leI 1 c && leI c 1000000 && leI 0 i && leI i 1000000 && leI 0 j && leI j 1000000
def upN (i j c : Int) : Nat := (Builtin.Range.rangeSize i j c).toNat
def dIR3 (da : DAr) : DI := fun ρ μ P R => da ρ μ (fun xs μ' => ∃ i j c n, xs = [wi i, wi j, wi c] ∧ RgC i j c n ∧ P (rintsC i c n) μ') R
def iR3 (f : FA) : FI := fun ρ μ => bd (f ρ μ) fun xs μ' => match xs with
  | [.d (.v (.int i)), .d (.v (.int j)), .d (.v (.int c))] => if upC i j c = true then some (.ok (rintsC i c (upN i j c)) μ') else none
  | _ => none
end
end FR

set_option Elab.async false
set_option linter.all false
set_option maxRecDepth 100000
set_option maxHeartbeats 4000000
/-! FR, part thirteen: bits, in, stars in displays, all, any, sum, extend, reversed ranges. -/
namespace FR
open PySem L2 Evl DL
section
variable {X : Cx} {Wx : WX} {K : PySem.W.Frag} {ga : Str → Addr} {a b e o : Expr} {es : List Expr} {ta tb te : TE} {da db de : DE} {tA : TA} {dA : DAr} {pos p : Pos}
/-! ### bits -/
def xorI (i j : Int) : Int := Builtin.bitXor i j
def andI (i j : Int) : Int := Builtin.bitAnd i j
def orI (i j : Int) : Int := Builtin.bitOr i j
def cNn (_ j : Int) : Bool := leI 0 j
theorem cNn_r {i j : Int} (h : 0 ≤ j) : cNn i j = true := leI_iff.mpr h
def oShr : F2 := oI cNn fun i j => .int (i / 2 ^ j.toNat)
/-! ### x in seq, flat values -/
def flatD : D → Bool
  | .v u => flatV u
  | _ => false
def unv : D → V
  | .v u => u
  | _ => .non
def inD (u : V) (ds : List D) : Bool := inV u (ds.map unv)
def dIn (neg : Bool) : D2 := fun x y μ P _ => ∃ u ds l, x = .d (.v u) ∧ seqOf μ y = some (ds, l) ∧ flatV u = true ∧ ds.all flatD = true ∧ P (wb (if neg then !inD u ds else inD u ds)) μ
def oIn (neg : Bool) : F2 := fun x y μ => match x, seqOf μ y with
  | .d (.v u), some (ds, _) => if (flatV u && ds.all flatD) = true then some (.ok (wb (if neg then !inD u ds else inD u ds)) μ) else none
  | _, _ => none
theorem run_in {neg : Bool} : Run2 ga (dIn neg) (oIn neg) := fun x y μ => by
  unfold oIn
  split
  · rename_i u ds l e
    refine sat_if fun q => ?_
    rw [Bool.and_eq_true] at q
    exact sat_ok fun P R p => ⟨u, ds, l, rfl, e, q.1, q.2, p⟩
  · exact sat_none
/-! ### *e in a display -/
def dStar (de : DE) (dr : DAr) : DAr := fun ρ μ P R => de ρ μ (fun x μ1 => ∃ ds l, seqOf μ1 x = some (ds, l) ∧ dr ρ μ1 (fun ys μ2 => P (ds.map (item l) ++ ys) μ2) R) R
theorem wats_app {w : Wd} : ∀ {xs ys : List W} {vs us : List V}, WAts K w xs vs → WAts K w ys us → WAts K w (xs ++ ys) (vs ++ us)
  | _, _, _, _, .nil, s => s
  | _, _, _, _, .cons h t, s => .cons h (wats_app t s)
theorem sim_star (h : Sim K Wx te de) (h' : SimA K Wx tA dA) : SimA K Wx (StX.tStar K te tA) (dStar de dA) := fun {w σ ρ μ P R} ok st q {Q} qa qx =>
  h ok st q (fun w1 μ1 x v s1 ok1 hx ⟨ds, l, e, p⟩ => by
    obtain ⟨a, xs, rfl, hs, ht⟩ := seq_ok ok1 hx e
    refine ⟨a, xs, rfl, hs.symm, h' ok1 (st.step s1) p (fun w2 μ2 ys us s2 ok2 hy p2 => ?_) (qx.step s1)⟩
    refine qa w2 μ2 _ _ (s1.trans s2) ok2 (wats_app (ats_items (ht.mono (wH_step s2))) hy) p2) qx
theorem b_star (ha : BE X Wx e te de) (hr : BA X Wx es tA dA) (hs : starEach (.Starred e p :: es) X.env = (true, eval e X.env) :: starEach es X.env := by rfl) : BA X Wx (.Starred e p :: es) (StX.tStar X.K te tA) (dStar de dA) := ⟨StX.pa_star ha.pe hr.pa hs, sim_star ha.sim hr.sim⟩
def fStar (f : FE) (g : FA) : FA := fun ρ μ => bd (f ρ μ) fun x μ1 => match seqOf μ1 x with
  | some (ds, l) => bd (g ρ μ1) fun ys μ2 => some (.ok (ds.map (item l) ++ ys) μ2)
  | none => none
theorem run_star {f : FE} {g : FA} (h : RunE ga de f) (h' : RunA ga dA g) : RunA ga (dStar de dA) (fStar f g) := fun ρ μ => sat_bd (h ρ μ) (w' := fun x μ1 P R => ∃ ds l, seqOf μ1 x = some (ds, l) ∧ dA ρ μ1 (fun ys μ2 => P (ds.map (item l) ++ ys) μ2) R) (fun x μ1 => by
  split
  · rename_i ds l e
    exact (sat_bd (h' ρ μ1) (w' := fun ys μ2 P R => P (ds.map (item l) ++ ys) μ2) (fun ys μ2 => sat_ok fun P R p => p) fun _ _ p => p).imp fun P R p => ⟨ds, l, e, p⟩
  · exact sat_none) fun _ _ p => p
/-! ### all, any, sum of lists -/
def boolsOf : List D → Option (List Bool)
  | [] => some []
  | .v (.bl i) :: r => (boolsOf r).map (i :: ·)
  | _ => none
theorem boolsOf_ok : ∀ {ds : List D} {ns : List Bool}, boolsOf ds = some ns → ds = ns.map D.bl
  | [], ns, h => by cases h; rfl
  | d :: r, ns, h => by
    unfold boolsOf at h
    split at h
    · rename_i q
      cases q
    · rename_i i r' q
      cases q
      cases z : boolsOf r with
      | none => rw [z] at h; cases h
      | some y =>
        rw [z] at h
        cases h
        rw [boolsOf_ok z]
        rfl
    · cases h
theorem ats_bools {G : Hp} : ∀ {ns : List Bool} {vs : List V}, Ats K G (ns.map D.bl) vs → vs = ns.map V.bl
  | [], _, h => by cases h; rfl
  | n :: r, _, h => by
    cases h with
    | cons a t =>
      cases a
      rw [ats_bools t]
      rfl
def dLB (g : List Bool → V) : DC := fun xs μ P _ => ∃ x l bs, xs = [x] ∧ seqOf μ x = some (List.map D.bl bs, l) ∧ isLst μ x = true ∧ P (.d (.v (g bs))) μ
theorem opc_LB {g : List Bool → V} : OpC K Wx (fun vs H Q => ∃ (a : Addr) (bs : List Bool), vs = [V.ref a] ∧ SqL K H a (bs.map V.bl) ∧ Q (g bs) H) (dLB g) := fun {w σ μ xs vs P R} ok hx h {Q} qn _ => by
  obtain ⟨x, l, bs, rfl, e, el, p⟩ := h
  obtain ⟨v, rfl, av⟩ := wats1 hx
  obtain ⟨a, ys, rfl, hs, hd⟩ := lstS_ok ok av e el
  obtain rfl := ats_bools hd
  exact ⟨a, bs, rfl, hs, qn.now ok .imm p⟩
theorem opc_all : OpC K Wx (rAll K) (dLB fun bs => .bl (bs.all id)) := opc_LB
def cLB (g : List Bool → V) : FC := fun xs μ => match xs with
  | [x] => (match seqOf μ x with
    | some (ds, _) => (match boolsOf ds with
      | some bs => if isLst μ x = true then some (.ok (.d (.v (g bs))) μ) else none
      | none => none)
    | none => none)
  | _ => none
theorem run_LB {g : List Bool → V} : RunC ga (dLB g) (cLB g) := fun xs μ => by
  unfold cLB
  split
  · rename_i x
    split
    · rename_i ds l e
      split
      · rename_i bs e2
        exact sat_if fun q => sat_ok fun P R p => ⟨x, l, bs, rfl, by rw [e, boolsOf_ok e2], q, p⟩
      · exact sat_none
    · exact sat_none
  · exact sat_none
def cAll : FC := cLB fun bs => .bl (bs.all id)
def cAny : FC := cLB fun bs => .bl (bs.any id)
theorem run_all : RunC ga (dLB fun bs => .bl (bs.all id)) cAll := run_LB
def dLI (g : List Int → V) : DC := fun xs μ P _ => ∃ x l ns, xs = [x] ∧ seqOf μ x = some (List.map D.int ns, l) ∧ isLst μ x = true ∧ P (.d (.v (g ns))) μ
theorem opc_sum : OpC K Wx (rSum K) (dLI fun ns => .int ns.sum) := fun {w σ μ xs vs P R} ok hx h {Q} qn _ => by
  obtain ⟨x, l, bs, rfl, e, el, p⟩ := h
  obtain ⟨v, rfl, av⟩ := wats1 hx
  obtain ⟨a, ys, rfl, hs, hd⟩ := lstS_ok ok av e el
  obtain rfl := ats_ints hd
  exact ⟨a, bs, rfl, hs, qn.now ok .imm p⟩
def cLI (g : List Int → V) : FC := fun xs μ => match xs with
  | [x] => (match seqOf μ x with
    | some (ds, _) => (match intsOf ds with
      | some bs => if isLst μ x = true then some (.ok (.d (.v (g bs))) μ) else none
      | none => none)
    | none => none)
  | _ => none
theorem run_LI {g : List Int → V} : RunC ga (dLI g) (cLI g) := fun xs μ => by
  unfold cLI
  split
  · rename_i x
    split
    · rename_i ds l e
      split
      · rename_i bs e2
        exact sat_if fun q => sat_ok fun P R p => ⟨x, l, bs, rfl, by rw [e, intsOf_ok e2], q, p⟩
      · exact sat_none
    · exact sat_none
  · exact sat_none
def cSum : FC := cLI fun ns => .int ns.sum
theorem run_sum : RunC ga (dLI fun ns => .int ns.sum) cSum := run_LI
/-! ### xs.extend(ys) -/
def dExt (dl de : DE) : DSt := fun d ρ μ => dl ρ μ (fun x μ1 => ∃ k ds0, x = .m k ∧ μ1[k]? = some (.lst ds0) ∧ de ρ μ1 (fun y μ2 => ∃ zs ds, lstOf μ2 y = some zs ∧ μ2[k]? = some (.lst ds) ∧ small (ds.length + zs.length) ∧ d.nx ρ (μ2.set k (.lst (ds ++ zs)))) (d.x ρ)) (d.x ρ)
def fExt (fl fe : FE) : FSt := fun ρ μ => eb (fl ρ μ) ρ fun x μ1 => match x with
  | .m k => (match mlist μ1 k with
    | some _ => eb (fe ρ μ1) ρ fun y μ2 => (match lstOf μ2 y with
      | some zs => (match mlist μ2 k with
        | some ds => if smallB (ds.length + zs.length) = true then some (.nx ρ (μ2.set k (.lst (ds ++ zs)))) else none
        | none => none)
      | none => none)
    | none => none)
  | _ => none
/-! ### for x in reversed(range(n)) -/
def dIRevR1 (da : DE) : DI := fun ρ μ P R => da ρ μ (fun x μ1 => ∃ j, x = wi j ∧ -(2 ^ 62) ≤ j ∧ j < 2 ^ 62 ∧ P (rintsC ((j.toNat : Nat) - 1) (-1) j.toNat) μ1) R
theorem sim_iRevR1 (h : Sim K Wx ta da) : SimI K Wx (iRevR (tRg1 ta)) (dIRevR1 da) := fun {w σ ρ μ P R} ok st q {Q} k kx =>
  h ok st q (fun w1 μ1 x v s1 ok1 ax ⟨j, e, h1, h2, p⟩ => by
    subst e
    cases ax
    refine ⟨j, rfl, by decide, by decide, h1, h2, ?_⟩
    rw [show (0 : Int) + (((j - 0).toNat : Nat) : Int) - 1 = ((j.toNat : Nat) : Int) - 1 by rw [Int.sub_zero]; omega, Int.sub_zero]
    exact k w1 μ1 _ _ s1 ok1 dw_rangeC p) kx
theorem b_iRevR1 {tg : Expr} {p2 pos2 : Pos} (hr : X.mg "range" = none) (hgr : Gl X "range") (hv : X.mg "reversed" = none) (hgv : Gl X "reversed") (ha : BE X Wx a ta da) (na : starEach [a] X.env = (false, eval a X.env) :: starEach [] X.env := by rfl)
    (hs : starEach [Expr.Call (.Name "range" p2) [a] [] pos2] X.env = (false, eval (Expr.Call (.Name "range" p2) [a] [] pos2) X.env) :: starEach [] X.env := by rfl) :
    BI X Wx tg (.Call (.Name "reversed" p) [.Call (.Name "range" p2) [a] [] pos2] [] pos) (iRevR (tRg1 ta)) (dIRevR1 da) := ⟨pi_revR hgv hv (prg_1 hgr hr ha.pe na) hs, sim_iRevR1 ha.sim⟩
def iRevR1 (f : FE) : FI := fun ρ μ => bd (f ρ μ) fun x μ' => match x with
  | .d (.v (.int j)) => if r62 j = true then some (.ok (rintsC ((j.toNat : Nat) - 1) (-1) j.toNat) μ') else none
  | _ => none
theorem run_iRevR1 {f : FE} (h : RunE ga da f) : RunI ga (dIRevR1 da) (iRevR1 f) := fun ρ μ => sat_bd (h ρ μ) (w' := fun x μ' P R => ∃ j, x = wi j ∧ -(2 ^ 62) ≤ j ∧ j < 2 ^ 62 ∧ P (rintsC ((j.toNat : Nat) - 1) (-1) j.toNat) μ') (fun x μ' => by
  split
  · rename_i j
    exact sat_if fun q => sat_ok fun P R p => ⟨j, rfl, (r62_ok q).1, (r62_ok q).2, p⟩
  · exact sat_none) fun _ _ p => p
/-! ### a constant of the module -/
def isDs (f : D → Value → Bool) : List D → List Value → Bool
  | [], [] => true
  | d :: ds, u :: us => f d u && isDs f ds us
  | _, _ => false
def isD (K : PySem.W.Frag) : Nat → D → Value → Bool
  | 0, _, _ => false
  | _ + 1, .v .non, .none => true
  | _ + 1, .v (.bl b), .bool c => decide (b = c)
  | _ + 1, .v (.int i), .int j _ => decide (i = j)
  | _ + 1, .v (.str i), .str j _ => decide (i = j)
  | n + 1, .tup ds, .ref a => (match K.lookup a with
    | some o => decide (o.cls = .type "tuple") && (match o.data with
      | .seq its _ => decide (its.size ≤ 1000) && isDs (isD K n) ds its.toList
      | _ => false)
    | none => false)
  | _, _, _ => false
def cnV (K : PySem.W.Frag) (x : Str) : V := match PySem.W.nsIn K mainGlobals x with
  | some (some u) => (absV u).getD .non
  | _ => .non
def cnB (K : PySem.W.Frag) (x : Str) (d : D) : Bool := match PySem.W.nsIn K mainGlobals x with
  | some (some u) => isD K 9 d u
  | _ => false
def ConOk (K : PySem.W.Frag) (mg : Str → Option Value) (x : Str) (d : D) : Prop := ∃ u, mg x = some u ∧ RelV (cnV K x) u ∧ ∀ G, At K G d (cnV K x)
def dCon (d : D) : DE := fun _ μ P _ => P (.d d) μ
def fCon (d : D) : FE := fun _ μ => some (.ok (.d d) μ)
/-! ### max(a, b) -/
def dMax2 : DC := fun xs μ P _ => ∃ i j, xs = [wi i, wi j] ∧ P (wi (if j > i then j else i)) μ
theorem opc_max2 : OpC K Wx (fun xs H Q => ∃ i j, xs = [.int i, .int j] ∧ Q (.int (if j > i then j else i)) H) dMax2 := fun {w σ μ xs vs P R} ok hx h {Q} qn _ => by
  obtain ⟨i, j, rfl, p⟩ := h
  obtain ⟨v, u, rfl, av, au⟩ := wats2 hx
  cases av
  cases au
  exact ⟨i, j, rfl, qn.now ok .imm p⟩
def cMax2 : FC := fun xs μ => match xs with
  | [.d (.v (.int i)), .d (.v (.int j))] => some (.ok (wi (if j > i then j else i)) μ)
  | _ => none
theorem run_max2 : RunC ga dMax2 cMax2 := fun xs μ => by
  unfold cMax2
  split
  · exact sat_ok fun P R p => ⟨_, _, rfl, p⟩
  · exact sat_none
/-! ### range downwards -/
def iR3d (f : FA) : FI := fun ρ μ => bd (f ρ μ) fun xs μ' => match xs with
  | [.d (.v (.int i)), .d (.v (.int j)), .d (.v (.int (.negSucc 0)))] => if (r62 i && r62 j) = true then some (.ok (rintsC i (-1) (i - j).toNat) μ') else none
  | _ => none
/-! ### more readings -/
end
end FR

set_option Elab.async false
set_option linter.all false
set_option maxRecDepth 100000
set_option maxHeartbeats 4000000
/-! FR, part fourteen: enumerate of a tuple. -/
namespace EnT
open PySem PySem.Spec PyProof.Rows L2
set_option maxHeartbeats 4000000 in
section
variable {prog : Program} {w : World} {A : Around} {E : Value → Shared → Prop} {s : Shared}
end
/-- the tuple at a as it stands at each turn, with the number of the turn in a new pair -/
def IteT (K : PySem.W.Frag) (a : Addr) : It :=
  ⟨fun i H => ∃ (xs : List V) (x : V), SqT K H a xs ∧ xs[i]? = some x, fun i H v H' => ∃ T x, v = .ref T ∧ H T = none ∧ H' = upd H T (.tup [.int (i : Nat), x]) ∧ ∀ xs, SqT K H a xs → xs[i]? = some x, fun i H => ∃ xs : List V, SqT K H a xs ∧ xs.length ≤ i⟩
def iEnumT (K : PySem.W.Frag) (ta : TA) : TI := fun σ H R => ta σ H fun vs H1 => ∃ a xs, vs = [.ref a] ∧ SqT K H1 a xs ∧ R (IteT K a) H1
end EnT
namespace FR
open PySem L2 Evl DL
section
variable {X : Cx} {Wx : WX} {K : PySem.W.Frag} {ga : Str → Addr} {a b e o : Expr} {tA : TA} {dA : DAr} {pos p : Pos}
def dIET (da : DAr) : DI := fun ρ μ P R => da ρ μ (fun xs μ' => ∃ x ds l, xs = [x] ∧ fixOf x = some (ds, l, false) ∧ P (enums l 0 ds) μ') R
def iET (f : FA) : FI := fun ρ μ => bd (f ρ μ) fun xs μ' => match xs with
  | [x] => (match fixOf x with
    | some (ds, l, false) => some (.ok (enums l 0 ds) μ')
    | _ => none)
  | _ => none
end
end FR

set_option Elab.async false
set_option linter.all false
set_option maxRecDepth 100000
set_option maxHeartbeats 4000000
/-! FR, part fifteen: list(zip(a, b)) of two lists. -/
namespace LZ
open PySem PySem.Spec PyProof.Rows L2 PySem.W
/-- a zip of two lists before turn i -/
def ZSt (h : Heap) (z TI TO i1 i2 a b : Addr) (i : Nat) : Prop :=
  IsPair h TI (.ref i1) (.ref i2) ∧ (∃ x y, IsPair h TO x y) ∧ h.IsListIter i1 a i ∧ h.IsListIter i2 b i ∧ (IsZip h z TI TO .none ∨ ∃ T f oT, IsZipHeld h z TI TO T f ∧ h.get? T = some oT)
section
variable {prog : Program} {w : World} {A : Around} {E : Value → Shared → Prop} {s : Shared} {z TI TO i1 i2 a b : Addr} {i : Nat}
theorem ZSt.ty {h : Heap} (st : ZSt h z TI TO i1 i2 a b i) : ∃ o, h.get? z = some o ∧ o.cls = .type "zip" := by
  obtain ⟨_, _, _, _, q | ⟨T, f, oT, q, _⟩⟩ := st
  · exact ⟨_, q, rfl⟩
  · exact ⟨_, q, rfl⟩
theorem ZSt.lt {h : Heap} (st : ZSt h z TI TO i1 i2 a b i) : ∀ c ∈ [z, TI, TO, i1, i2], c < h.objs.size := fun c hc => by
  obtain ⟨o, hz, _⟩ := st.ty
  obtain ⟨h1, ⟨x, y, h2⟩, ⟨_, h3, _⟩, ⟨_, h4, _⟩, _⟩ := st
  have e' : c = z ∨ c = TI ∨ c = TO ∨ c = i1 ∨ c = i2 := by simpa using hc
  rcases e' with q | q | q | q | q
  · rw [q]; exact Heap.lt_size hz
  · rw [q]; exact Heap.lt_size h1
  · rw [q]; exact Heap.lt_size h2
  · rw [q]; exact Heap.lt_size h3
  · rw [q]; exact Heap.lt_size h4
theorem ZSt.put {h h' : Heap} {q : Addr} (st : ZSt h z TI TO i1 i2 a b i) (hq : q ∉ [z, TI, TO, i1, i2]) (k : ∀ c o, c ≠ q → h.get? c = some o → h'.get? c = some o) (kq : ∃ o, h'.get? q = some o) : ZSt h' z TI TO i1 i2 a b i := by
  obtain ⟨h1, ⟨x, y, h2⟩, h3, h4, h5⟩ := st
  have n : ∀ c ∈ [z, TI, TO, i1, i2], c ≠ q := fun c hc e => hq (e ▸ hc)
  refine ⟨k _ _ (n _ (by simp)) h1, ⟨x, y, k _ _ (n _ (by simp)) h2⟩, h3.at fun o e => k _ o (n _ (by simp)) e, h4.at fun o e => k _ o (n _ (by simp)) e, ?_⟩
  rcases h5 with g | ⟨T, f, oT, g, gT⟩
  · exact .inl (k _ _ (n _ (by simp)) g)
  · refine .inr ⟨T, f, ?_⟩
    by_cases hT : T = q
    · obtain ⟨o, ho⟩ := kq
      exact ⟨o, k _ _ (n _ (by simp)) g, by rw [hT]; exact ho⟩
    · exact ⟨oT, k _ _ (n _ (by simp)) g, k _ _ hT gT⟩
end
section
variable {X : Cx} {pins : List (Addr × Obj)} {σ : L2.St} {z TI TO i1 i2 a b q : Addr} {A1 : Around}
/-- the walk over zip that fills the list at q; G is without q -/
def LzRun (K : PySem.W.Frag) (a b q : Addr) (xs ys : List V) (P : Nat → List V → Hp → Prop) : Prop :=
  (∀ i acc G, P i acc G → SqL K G a xs ∧ SqL K G b ys) ∧
  ∀ i acc G x y T, P i acc G → G q = none → xs[i]? = some x → ys[i]? = some y → G T = none → T ≠ q → P (i + 1) (acc ++ [.ref T]) (upd G T (.tup [x, y]))
end
def tLZ (K : PySem.W.Frag) (ta : TA) : TE := fun σ H Q => ta σ H fun vs H1 => ∃ a b xs ys, vs = [.ref a, .ref b] ∧ SqL K H1 a xs ∧ SqL K H1 b ys ∧
  ∀ q, H1 q = none → ∃ P, LzRun K a b q xs ys P ∧ P 0 [] H1 ∧ ∀ acc G, P (min xs.length ys.length) acc G → G q = none → Q (.ref q) (upd G q (.lst acc))
end LZ
namespace FR
open PySem L2 Evl DL
section
variable {X : Cx} {Wx : WX} {K : PySem.W.Frag} {ga : Str → Addr} {a b : Expr} {tA : TA} {dA : DAr} {pos p p2 pos2 : Pos}
def zipD (ds es : List D) : List D := List.zipWith (fun x y => D.tup [x, y]) ds es
def dLZ (da : DAr) : DE := fun ρ μ P R => da ρ μ (fun xs μ' => ∃ x y ds es, xs = [x, y] ∧ fixOf x = some (ds, false, true) ∧ fixOf y = some (es, false, true) ∧ newLst (zipD ds es) μ' P) R
def fLZ (mt : Bool) (f : FA) : FE := fun ρ μ => bd (f ρ μ) fun xs μ' => match xs with
  | [x, y] => (match fixOf x, fixOf y with
    | some (ds, false, true), some (es, false, true) => newL mt (zipD ds es) μ'
    | _, _ => none)
  | _ => none
end
end FR

set_option Elab.async false
set_option linter.all false
set_option maxRecDepth 100000
set_option maxHeartbeats 4000000
/-! FR, part sixteen: list(o), o of an own class whose __iter__ gives iter(self.f), f a tuple. -/
namespace TIt
open PySem PySem.Spec PyProof.Rows L2
section
variable {prog : Program} {w : World} {A : Around} {E : Value → Shared → Prop} {s : Shared} {it t : Addr} {i : Nat}
end
/-- a tuple's iterator; one that has ended -/
def TiO (t it : Addr) (i : Nat) : HO := .ext fun h => h.IsTupleIter it t i
def TeO (it : Addr) : HO := .ext fun h => ∃ o, h.get? it = some o
section
variable {X : Cx} {pins : List (Addr × Obj)} {σ : L2.St} {H : Hp} {s : Shared} {t it q : Addr} {i : Nat}
def rIterT (K : PySem.W.Frag) : List V → Hp → VK → Prop := fun xs H Q => ∃ t zs, xs = [.ref t] ∧ SqT K H t zs ∧ ∀ it, H it = none → Q (.ref it) (upd H it (TiO t it 0))
end
/-- what __iter__ promises: an iterator over the tuple in the field -/
def spIt (K : PySem.W.Frag) (C : Addr) (f : Str) : Sp := fun vs H Q _ => ∃ a dx fs t ys, vs = [.ref a] ∧ H a = some (.ins C dx fs) ∧ fs.lookup f = some (.ref t) ∧ SqT K H t ys ∧ ∀ it, H it = none → Q (.ref it) (upd H it (TiO t it 0))
structure OkIt (P : Program) (w : World) (K : PySem.W.Frag) (mg : Str → Option Value) (base : Heap) (k : Nat) (fi C : Addr) (f : Str) : Prop where
  ex : ∃ fd ps, FnOk P w K mg base (L2.CX P w) k fi fd ps (spIt K C f) ∧ Binds K fd ps []
  it : PySem.W.findIn K (.ref C) "__iter__" = some (some (.ref fi))
  itF : PySem.W.isFn K (.ref fi) = true
  nolen : PySem.W.findIn K (.ref C) "__len__" = some none
  nohint : PySem.W.findIn K (.ref C) "__length_hint__" = some none
section
variable {X : Cx} {pins : List (Addr × Obj)} {σ : L2.St} {H : Hp} {s : Shared} {t it q a C fi : Addr} {f : Str} {A1 : Around}
/-- list(o) -/
def rListIt (K : PySem.W.Frag) (C : Addr) (f : Str) : List V → Hp → VK → Prop := fun xs H Q => ∃ a dx fs t ys, xs = [.ref a] ∧ H a = some (.ins C dx fs) ∧ fs.lookup f = some (.ref t) ∧ SqT K H t ys ∧ ∀ q, H q = none → Q (.ref q) (upd H q (.lst ys))
end
end TIt
namespace FR
open PySem L2 Evl DL
section
variable {X : Cx} {Wx : WX} {K : PySem.W.Frag} {ga : Str → Addr} {C : Addr} {f : Str}
def dListO (C : Addr) (f : Str) : DC := fun xs μ P _ => ∃ x gs ds, xs = [x] ∧ insOf μ x = some (C, gs, false) ∧ gs.lookup f = some (.tup ds) ∧ newLst ds μ P
def cListO (mt : Bool) (C : Addr) (f : Str) : FC := fun xs μ => match xs with
  | [x] => (match insOf μ x with
    | some (C', gs, false) => if C' = C then (match gs.lookup f with
      | some (.tup ds) => newL mt ds μ
      | _ => none) else none
    | _ => none)
  | _ => none
end
end FR

set_option Elab.async false
set_option linter.all false
set_option maxRecDepth 100000
set_option maxHeartbeats 4000000
/-! FR, part seventeen: slices, zip, enumerate within a comprehension. -/
namespace FR
open PySem L2 Evl DL
section
variable {X : Cx} {Wx : WX} {K : PySem.W.Frag} {a b e : Expr} {te : TE} {de : DE} {tA : TA} {dA : DAr} {pos p : Pos}
end
end FR

set_option Elab.async false
set_option linter.all false
set_option maxRecDepth 100000
set_option maxHeartbeats 4000000
/-! FR, part eighteen: while. -/
namespace FR
open PySem L2 Evl DL
/-- while: a word by a number that falls -/
def WhlI (dt : DTe) (db : DSt) (d : Dn) (ρ : Rho) (μ : Mu) : Prop := ∃ Iv : Nat → Rho → Mu → Prop, (∃ m, Wkn μ.length (Iv m) ρ μ) ∧
  ∀ m ρ' μ', Iv m ρ' μ' → dt ρ' μ' (fun b μ2 => (b = true → ∃ d', db d' ρ' μ2 ∧ d'.Le (d.turn μ.length (fun ρ3 μ3 => ∃ m', m' < m ∧ Iv m' ρ3 μ3))) ∧ (b = false → d.nx ρ' μ2)) (d.x ρ')
def dWhl (dt : DTe) (db : DSt) : DSt := fun d ρ μ => WhlI dt db d ρ μ
section
variable {K : PySem.W.Frag} {Wx : WX} {X : Cx} {ga : Str → Addr}
theorem sim_whl {tc : TT} {tb : TS} {dt : DTe} {db : DSt} (hc : SimT K Wx tc dt) (hb : SimS K Wx tb db) : SimS K Wx (tWhile tc tb) (dWhl dt db) := fun {w σ ρ μ d De} ok st q e => by
  obtain ⟨Iv, ⟨m0, h0⟩, hs⟩ := q
  have hn : μ.length = w.α.length := ok.len.symm
  refine ⟨fun m σ' H' => ∃ w' ρ' μ', Step w w' ∧ WOk K w' μ' ∧ Sto K w' σ' ρ' ∧ w'.H = H' ∧ Iv m ρ' μ', ⟨m0, wkn_ok (.refl _) hn ok st h0⟩, fun m σ' H' ⟨w', ρ', μ', s', ok', st', eH, p⟩ => ?_⟩
  subst eH
  refine hc ok' st' (hs m ρ' μ' p) (fun w2 μ2 b s2 ok2 z => ?_) ((e.step s').qx st')
  cases b with
  | true =>
    rw [if_pos rfl]
    obtain ⟨d', hd', le⟩ := z.1 rfl
    refine ⟨fun σ3 H3 => ∃ m', m' < m ∧ ∃ w' ρ' μ', Step w w' ∧ WOk K w' μ' ∧ Sto K w' σ3 ρ' ∧ w'.H = H3 ∧ Iv m' ρ' μ', fun σ3 H3 h => h, ?_⟩
    have s12 := s'.trans s2
    refine hb ok2 (st'.step s2) hd' (EndsOk.le le ⟨fun s4 ok4 st4 z => ?_, fun s4 ok4 a4 z => e.rt (s12.trans s4) ok4 a4 z, fun s4 ok4 st4 z => e.nx (s12.trans s4) ok4 st4 z, fun s4 ok4 st4 z => ?_, fun s4 ok4 st4 a4 z => e.xc (s12.trans s4) ok4 st4 a4 z⟩)
    · obtain ⟨w5, ρ5, μ5, s5, ok5, st5, eH5, m', lt, p5⟩ := wkn_ok (s12.trans s4) hn ok4 st4 z
      exact ⟨m', lt, w5, ρ5, μ5, s5, ok5, st5, eH5, p5⟩
    · obtain ⟨w5, ρ5, μ5, s5, ok5, st5, eH5, m', lt, p5⟩ := wkn_ok (s12.trans s4) hn ok4 st4 z
      exact ⟨m', lt, w5, ρ5, μ5, s5, ok5, st5, eH5, p5⟩
  | false =>
    rw [if_neg Bool.false_ne_true]
    exact e.nx (s'.trans s2) ok2 (st'.step s2) (z.2 rfl)
theorem b_while {c : Expr} {body : List Stmt} {tc : TT} {tb : TS} {dt : DTe} {db : DSt} {pos : Pos} (hp : PassesOwn (model X.prog X.w) X.A X.env X.xe) (hc : BT X Wx c tc dt) (hb : BSs X Wx body tb db) :
    BS X Wx (.While c body [] pos) (tWhile tc tb) (dWhl dt db) := ⟨ps_while hp hc.pt hb.ps, sim_whl hc.sim hb.sim⟩
/-- at most so many turns -/
def fWhlN (t : FT) (b : FSt) (dead : List Nat) (n : Nat) : Nat → Rho → Mu → Option So
  | 0, _, _ => none
  | k + 1, ρ, μ => eb (t ρ μ) ρ fun c μ2 => if c = true then lt dead n (b ρ μ2) (fWhlN t b dead n k) else some (.nx ρ μ2)
def fWhl (fuel : Nat) (t : FT) (b : FSt) (dead : List Nat) : FSt := fun ρ μ => match cutL dead μ.length ρ μ with
  | none => none
  | some z => fWhlN t b dead μ.length fuel z.1 z.2
theorem run_whl {fuel : Nat} {t : FT} {b : FSt} {dead : List Nat} {dt : DTe} {db : DSt} (hc : RunT ga dt t) (hb : RunS ga db b) : RunS ga (dWhl dt db) (fWhl fuel t b dead) := fun ρ μ => by
  intro r e d p
  unfold fWhl at e
  split at e
  · cases e
  · rename_i z hz
    refine ⟨fun m ρ' μ' => ∃ r, fWhlN t b dead μ.length m ρ' μ' = some r ∧ SPost ga d r, ⟨fuel, cutL_wkn hz ⟨r, e, p⟩⟩, fun m ρ' μ' h => ?_⟩
    obtain ⟨r, h, q⟩ := h
    cases m with
    | zero => cases h
    | succ m =>
      rw [fWhlN] at h
      have go : SatS ga (eb (t ρ' μ') ρ' fun c μ2 => if c = true then lt dead μ.length (b ρ' μ2) (fWhlN t b dead μ.length m) else some (.nx ρ' μ2))
          (fun d => dt ρ' μ' (fun c μ2 => (c = true → ∃ d', db d' ρ' μ2 ∧ d'.Le (d.turn μ.length (fun ρ3 μ3 => ∃ m', m' < m + 1 ∧ ∃ r, fWhlN t b dead μ.length m' ρ3 μ3 = some r ∧ SPost ga d r))) ∧ (c = false → d.nx ρ' μ2)) (d.x ρ')) := by
        refine ss_eb (hc ρ' μ') (w' := fun c μ2 d => (c = true → ∃ d', db d' ρ' μ2 ∧ d'.Le (d.turn μ.length (fun ρ3 μ3 => ∃ m', m' < m + 1 ∧ ∃ r, fWhlN t b dead μ.length m' ρ3 μ3 = some r ∧ SPost ga d r))) ∧ (c = false → d.nx ρ' μ2)) (fun c μ2 => ?_) fun d p => p
        intro r h d q
        cases c with
        | false =>
          rw [if_neg Bool.false_ne_true] at h
          cases h
          exact ⟨fun z => Bool.noConfusion z, fun _ => q⟩
        | true =>
          rw [if_pos rfl] at h
          refine ⟨fun _ => ⟨_, ?_, Dn.Le.refl⟩, fun z => nomatch z⟩
          unfold lt at h
          split at h
          · cases h
          · rename_i ρ3 μ3 hb3
            split at h
            · cases h
            · rename_i z4 h4
              exact hb _ _ _ hb3 _ (show Wkn _ _ _ _ from cutL_wkn h4 ⟨m, Nat.lt_succ_self _, r, h, q⟩)
          · rename_i ρ3 μ3 hb3
            split at h
            · cases h
            · rename_i z4 h4
              exact hb _ _ _ hb3 _ (show Wkn _ _ _ _ from cutL_wkn h4 ⟨m, Nat.lt_succ_self _, r, h, q⟩)
          · rename_i ρ3 μ3 hb3
            cases h
            exact hb _ _ _ hb3 _ q
          · rename_i y μ3 hb3
            cases h
            exact hb _ _ _ hb3 _ q
          · rename_i C fs ρ3 μ3 hb3
            cases h
            exact hb _ _ _ hb3 _ q
      exact go r h d q
end
/-- a while by the states of its turns -/
theorem whl_by {t : FT} {b : FSt} {dead : List Nat} {n m : Nat} (st : Nat → Rho × Mu) (ht : ∀ i, i < m → ∀ k, (eb (t (st i).1 (st i).2) (st i).1 fun c μ2 => if c = true then lt dead n (b (st i).1 μ2) k else some (.nx (st i).1 μ2)) = k (st (i + 1)).1 (st (i + 1)).2)
    (hf : ∀ k, (eb (t (st m).1 (st m).2) (st m).1 fun c μ2 => if c = true then lt dead n (b (st m).1 μ2) k else some (.nx (st m).1 μ2)) = some (.nx (st m).1 (st m).2)) :
    ∀ {i fuel : Nat}, i ≤ m → m - i < fuel → fWhlN t b dead n fuel (st i).1 (st i).2 = some (.nx (st m).1 (st m).2) := by
  intro i fuel hi hfu
  induction fuel generalizing i with
  | zero => omega
  | succ fuel ih =>
    rw [fWhlN]
    by_cases c : i = m
    · subst c
      exact hf _
    · rw [ht i (by omega)]
      exact ih (by omega) (by omega)
end FR

set_option Elab.async false
set_option linter.all false
set_option maxRecDepth 100000
set_option maxHeartbeats 4000000
/-! FR, part nineteen: t[::-1] of a tuple, xs[::-1] of a list. -/
namespace RvT
open PySem PySem.Spec PyProof.Rows L2 HT
section
variable {prog : Program} {w : World} {A : Around} {E : Value → Shared → Prop} {s : Shared}
end
def tRevT (K : PySem.W.Frag) (te : TE) : TE := fun σ H Q => te σ H fun x H1 => ∃ a xs, x = .ref a ∧ SqT K H1 a xs ∧ ∀ p, H1 p = none → Q (.ref p) (upd H1 p (.tup xs.reverse))
end RvT
namespace FR
open PySem L2 Evl DL
section
variable {X : Cx} {Wx : WX} {K : PySem.W.Frag} {ga : Str → Addr} {e : Expr} {te : TE} {de : DE} {pos : Pos}
theorem ats_rev {G : Hp} : ∀ {ds : List D} {vs : List V}, Ats K G ds vs → Ats K G ds.reverse vs.reverse
  | _, _, .nil => .nil
  | d :: ds, v :: vs, .cons h t => by
    rw [List.reverse_cons, List.reverse_cons]
    exact (ats_rev t).append (.cons h .nil)
def dRevT (de : DE) : DE := fun ρ μ P R => de ρ μ (fun x μ1 => ∃ ds, fixOf x = some (ds, false, false) ∧ newTup ds.reverse μ1 P) R
def fRevT (f : FE) : FE := fun ρ μ => bd (f ρ μ) fun x μ1 => match fixOf x with
  | some (ds, false, false) => some (.ok (.d (.tup ds.reverse)) μ1)
  | _ => none
end
end FR

set_option Elab.async false
set_option linter.all false
set_option maxRecDepth 100000
set_option maxHeartbeats 4000000
/-! FR, part twenty: subscripts of the module's dicts with text keys. -/
namespace FR
open PySem L2 Evl DL
def TabOk (K : PySem.W.Frag) (w : World) (mg : Str → Option Value) (x : Str) (tab : List (Str × D)) : Prop :=
  (∃ u, mg x = some u ∧ RelV (cnV K x) u) ∧ ∃ d, cnV K x = .ref d ∧ ∀ z dd, tab.lookup z = some dd → ∃ v, KDct K w d z v ∧ ∀ G, At K G dd v
def tbA (K : PySem.W.Frag) (x : Str) : Addr := match PySem.W.nsIn K mainGlobals x with
  | some (some (.ref d)) => d
  | _ => 0
def tbB (K : PySem.W.Frag) (x : Str) (tab : List (Str × D)) : Bool := (match PySem.W.nsIn K mainGlobals x with
  | some (some (.ref _)) => true
  | _ => false) && tab.all fun q => match PySem.W.nsIn K (tbA K x) q.1 with
  | some (some u) => isD K 9 q.2 u
  | _ => false
section
variable {X : Cx} {Wx : WX} {ga : Str → Addr} {e : Expr} {te : TE} {de : DE} {pos p : Pos}
def dTab (tab : List (Str × D)) (de : DE) : DE := fun ρ μ P R => de ρ μ (fun y μ1 => ∃ z dd, y = W.d (D.v (V.str z)) ∧ tab.lookup z = some dd ∧ P (.d dd) μ1) R
def fTab (tab : List (Str × D)) (f : FE) : FE := fun ρ μ => bd (f ρ μ) fun y μ1 => match y with
  | .d (.v (.str z)) => (match tab.lookup z with
    | some dd => some (.ok (.d dd) μ1)
    | none => none)
  | _ => none
end
end FR

set_option Elab.async false
set_option linter.all false
set_option maxRecDepth 100000
set_option maxHeartbeats 4000000
/-! FR, part twenty-one: xs[i] += v, xs[i] -= v of ints. -/
namespace FR
open PySem PySem.Spec PyProof.Rows L2 Evl DL
section
variable {X : Cx} {Wx : WX} {K : PySem.W.Frag} {ga : Str → Addr} {o i e : Expr} {tl ti te : TE} {dl di de : DE} {pos tpos : Pos} {f : Int → Int → Int} {op : Operator}
def dAugS (f : Int → Int → Int) (dl di de : DE) : DSt := fun d ρ μ => dl ρ μ (fun x μ1 => di ρ μ1 (fun j μ2 => ∃ k i n ds v0, x = W.m k ∧ j = wi i ∧ μ2[k]? = some (MO.lst ds) ∧ ixN ds.length i = some n ∧ ds[n]? = some (D.v (V.int v0)) ∧
  de ρ μ2 (fun y μ3 => ∃ v1 ds3, y = wi v1 ∧ μ3[k]? = some (MO.lst ds3) ∧ ixN ds3.length i = some n ∧ d.nx ρ (μ3.set k (MO.lst (ds3.set n (D.v (V.int (f v0 v1))))))) (d.x ρ)) (d.x ρ)) (d.x ρ)
def fAugS (f : Int → Int → Int) (fl fi fe : FE) : FSt := fun ρ μ => eb (fl ρ μ) ρ fun x μ1 => eb (fi ρ μ1) ρ fun j μ2 => match x, j with
  | .m k, .d (.v (.int i)) => (match mlist μ2 k with
    | some ds => (match ixN ds.length i with
      | some n => (match ds[n]? with
        | some (.v (.int v0)) => eb (fe ρ μ2) ρ fun y μ3 => (match y with
          | .d (.v (.int v1)) => (match mlist μ3 k with
            | some ds3 => if ixN ds3.length i = some n then some (.nx ρ (μ3.set k (.lst (ds3.set n (.v (.int (f v0 v1))))))) else none
            | none => none)
          | _ => none)
        | _ => none)
      | none => none)
    | none => none)
  | _, _ => none
end
end FR

set_option Elab.async false
set_option linter.all false
set_option maxRecDepth 100000
set_option maxHeartbeats 4000000
/-! FR, part twenty-two: xs.pop(i). -/
namespace FR
open PySem L2 Evl DL
theorem ats_erase {K : PySem.W.Frag} {G : Hp} : ∀ {ds : List D} {vs : List V} (n : Nat), Ats K G ds vs → Ats K G (ds.eraseIdx n) (vs.eraseIdx n)
  | _, _, _, .nil => .nil
  | _, _, 0, .cons _ t => t
  | _, _, n + 1, .cons h t => .cons h (ats_erase n t)
section
variable {X : Cx} {Wx : WX} {K : PySem.W.Frag} {ga : Str → Addr} {o e : Expr} {tl te : TE} {dl de : DE} {apos cpos : Pos}
def dPop (dl de : DE) : DE := fun ρ μ P R => dl ρ μ (fun x μ1 => ∃ k ds0, x = W.m k ∧ μ1[k]? = some (MO.lst ds0) ∧ de ρ μ1 (fun j μ2 => ∃ i n ds z, j = wi i ∧ (-(2 ^ 62) ≤ i ∧ i < 2 ^ 62) ∧ μ2[k]? = some (MO.lst ds) ∧ ixN ds.length i = some n ∧ ds[n]? = some z ∧ P (W.d z) (μ2.set k (MO.lst (ds.eraseIdx n)))) R) R
theorem sim_pop (hl : Sim K Wx tl dl) (h : Sim K Wx te de) : Sim K Wx (tBM K "list" rPopAt tl (tCons te tNil)) (dPop dl de) := fun {w σ ρ μ P R} ok st q {Q} qn qx =>
  hl ok st q (fun w1 μ1 x v s1 ok1 ax ⟨k, ds0, ex, hm, q1⟩ => by
    subst ex
    obtain ⟨a, ha, rfl⟩ := ax
    obtain ⟨_, xs0, h0, _⟩ := ok1.mu k a _ ha hm
    refine ⟨.inl ⟨rfl, xs0, sq_of h0⟩, h ok1 (st.step s1) q1 (fun w2 μ2 j u s2 ok2 aj ⟨i, n, ds, z, ej, hi, hm2, hn, hz, p⟩ => ?_) (qx.step s1)⟩
    subst ej
    cases aj
    have ha2 := s2.al? ha
    obtain ⟨hb, xs, h1, h2⟩ := ok2.mu k a _ ha2 hm2
    obtain ⟨y, g1, g2⟩ := h2.get hz
    have hix : ixN xs.length i = some n := by rw [← h2.length]; exact hn
    refine ⟨a, xs, i, n, y, rfl, rfl, h1, by omega, by omega, (ixN_seq hix).1, g1, ?_⟩
    exact qn _ _ _ _ ((s1.trans s2).trans (Step.put ha2)) (ok2.put (u' := .lst (ds.eraseIdx n)) ha2 hm2 hb ⟨hb, _, upd_same, ats_erase n h2⟩) ((WAt.dat g2).step (Step.put ha2)) p) qx
theorem b_pop (hl : BE X Wx o tl dl) (h : BE X Wx e te de) (hbase : attributeBase o "pop" X.env (eval o X.env) = eval o X.env := by rfl)
    (hfew : ((backTo cpos (starEach [e] X.env)).all (fun x => !x.1) && (backToKw cpos (keywordEach [] X.env)).all (fun x => x.1.isSome)
      && decide ([e].length + ([] : List Keyword).length + (if ([] : List Keyword).isEmpty then 0 else 1) < 30)) = true := by rfl)
    (hline : (apos.endLine == cpos.line) = true := by rfl) (hs : starEach [e] X.env = (false, eval e X.env) :: starEach [] X.env := by rfl) (hplain : (backTo cpos (starEach [] X.env)).any (·.1) = false := by rfl) :
    BE X Wx (.Call (.Attribute o "pop" apos) [e] [] cpos) (tBM X.K "list" rPopAt tl (tCons te tNil)) (dPop dl de) :=
  ⟨pe_bm PySem.F.plainAttrs_list PySem.F.slot_list_pop PySem.F.type_list_pop mt_popAt hl.pe (pa_cons h.pe pa_nil hs) hbase hfew hline hs hplain, sim_pop hl.sim h.sim⟩
def fPop (fl fe : FE) : FE := fun ρ μ => bd (fl ρ μ) fun x μ1 => match x with
  | .m k => (match mlist μ1 k with
    | some _ => bd (fe ρ μ1) fun j μ2 => (match j with
      | .d (.v (.int i)) => if r62 i = true then (match mlist μ2 k with
        | some ds => (match ixN ds.length i with
          | some n => (match ds[n]? with
            | some z => some (.ok (.d z) (μ2.set k (.lst (ds.eraseIdx n))))
            | none => none)
          | none => none)
        | none => none) else none
      | _ => none)
    | none => none)
  | _ => none
theorem run_pop {fl fe : FE} (hl : RunE ga dl fl) (h : RunE ga de fe) : RunE ga (dPop dl de) (fPop fl fe) := fun ρ μ => sat_bd (hl ρ μ) (w' := fun x μ1 P R => ∃ k ds0, x = W.m k ∧ μ1[k]? = some (MO.lst ds0) ∧ de ρ μ1 (fun j μ2 => ∃ i n ds z, j = wi i ∧ (-(2 ^ 62) ≤ i ∧ i < 2 ^ 62) ∧ μ2[k]? = some (MO.lst ds) ∧ ixN ds.length i = some n ∧ ds[n]? = some z ∧ P (W.d z) (μ2.set k (MO.lst (ds.eraseIdx n)))) R) (fun x μ1 => by
  split
  · rename_i k
    split
    · rename_i ds0 e0
      refine sat_bd (h ρ μ1) (w' := fun j μ2 P R => ∃ i n ds z, j = wi i ∧ (-(2 ^ 62) ≤ i ∧ i < 2 ^ 62) ∧ μ2[k]? = some (MO.lst ds) ∧ ixN ds.length i = some n ∧ ds[n]? = some z ∧ P (W.d z) (μ2.set k (MO.lst (ds.eraseIdx n)))) (fun j μ2 => ?_) fun P R p => ⟨k, ds0, rfl, mlist_ok e0, p⟩
      split
      · rename_i i
        refine sat_if fun q => ?_
        split
        · rename_i ds e1
          split
          · rename_i n e2
            split
            · rename_i z e3
              exact sat_ok fun P R p => ⟨i, n, ds, z, rfl, r62_ok q, mlist_ok e1, e2, e3, p⟩
            · exact sat_none
          · exact sat_none
        · exact sat_none
      · exact sat_none
    · exact sat_none
  · exact sat_none) fun _ _ p => p
end
end FR

set_option Elab.async false
set_option linter.all false
set_option maxRecDepth 100000
set_option maxHeartbeats 4000000
/-! FR, part twenty-three: own methods without arguments; xs[::-1] of a list. -/
namespace FR
open PySem L2 Evl DL
section
variable {X : Cx} {Wx : WX} {K : PySem.W.Frag} {ga : Str → Addr} {k : Nat} {f C : Addr} {ps : List Str} {dvs : List V} {pos apos : Pos} {e o : Expr} {ta te : TE} {da de : DE} {pre : List D → Prop} {out : List D → XR}
theorem b_metX0 {m : Str} {pl : Sem Bool} (h : Ok X.prog X.w K X.mg X.base k f ps dvs (purX pre out)) (hr : Room k X.A) (tk : Takes X Wx) (c : Cls K C) (hm : Meth K C m f) (he : BE X Wx o ta da) (hK : K = X.K := by rfl)
    (ht : eval (.Call (.Attribute o m apos) [] [] pos) X.env = (do
      let v ← eval o X.env
      standAt apos.atName
      let (g, one) ← holding [v] (getMethod v m pl)
      callWith pos g one (backTo pos (starEach [] X.env)) (backToKw pos (keywordEach [] X.env))) := by rfl) :
    BE X Wx (.Call (.Attribute o m apos) [] [] pos) (tMet K C m (purX pre out) dvs Wx ta tNil) (dMetX C m pre out dvs da dNil) := by
  subst hK
  obtain ⟨fd, ds, F, hb, hd, hk⟩ := h.ex
  exact ⟨pe_met0 he.pe c hm F hr hb hd tk ht, sim_metX he.sim sim_nil⟩
def dRevL (de : DE) : DE := fun ρ μ P R => de ρ μ (fun x μ1 => ∃ ds, fixOf x = some (ds, false, true) ∧ newLst ds.reverse μ1 P) R
theorem sim_revL (h : Sim K Wx te de) : Sim K Wx (tRevL K te) (dRevL de) := fun {w σ ρ μ P R} ok st q {Q} qn qx =>
  h ok st q (fun w1 μ1 x v s1 ok1 ax ⟨ds, e, p⟩ => by
    obtain ⟨a, us, rfl, h1, h2⟩ := fixL_ok ok1 ax e
    exact ⟨a, us, rfl, ex_l (wH_ex ok1) h1, fun p' hp => newLst_ok ok1 (ats_rev h2) p (qn.step s1) hp⟩) qx
theorem b_revL {k : Nat} {p1 p2 p3 : Pos} (he : BE X Wx e te de) : BE X Wx (.Subscript e (.Slice none none (some (.UnaryOp .USub (.Constant (.int 1) k p1) p2)) p3) pos) (tRevL X.K te) (dRevL de) := ⟨pe_revL he.pe, sim_revL he.sim⟩
def fRevL (mt : Bool) (f : FE) : FE := fun ρ μ => bd (f ρ μ) fun x μ1 => match fixOf x with
  | some (ds, false, true) => newL mt ds.reverse μ1
  | _ => none
theorem run_revL {mt : Bool} {f : FE} (h : RunE ga de f) : RunE ga (dRevL de) (fRevL mt f) := fun ρ μ => sat_bd (h ρ μ) (w' := fun x μ1 P R => ∃ ds, fixOf x = some (ds, false, true) ∧ newLst ds.reverse μ1 P) (fun x μ1 => by
  split
  · rename_i ds e1
    exact run_newL.imp fun P R p => ⟨ds, e1, p⟩
  · exact sat_none) fun _ _ p => p
end
end FR

set_option Elab.async false
set_option linter.all false
set_option maxRecDepth 100000
set_option maxHeartbeats 4000000
/-! FR, part twenty-five: sorted of tuples that two leading ints tell apart. -/
namespace SrL
open PySem PyProof.Rows Srt SrtO
section
variable {prog : Program} {w : World} {A : Around} {s : Shared}
def IsLead (h : Heap) (v : Value) (x y : Int) : Prop := ∃ a o t u n r, v = .ref a ∧ h.get? a = some o ∧ o.cls = .type "tuple" ∧ o.data = .seq ((.int x t :: .int y u :: r : List Value).toArray) n
theorem IsLead.keeps {h h' : Heap} {v : Value} {x y : Int} (p : IsLead h v x y) (k : ∀ b o, h.get? b = some o → o.cls = .type "tuple" → h'.get? b = some o) : IsLead h' v x y := by
  obtain ⟨a, o, t, u, n, r, e, ho, hc, hd⟩ := p
  exact ⟨a, o, t, u, n, r, e, k a o ho hc, hc, hd⟩
theorem lex_same {Q : Bool → Shared → Prop} {b fin : Bool} : ∀ (l : List Value) (i : Nat), Q fin s → PySem.W.KatLex prog w A b fin Q (l.zip l) i s
  | [], _, h => PySem.W.kat_nil h
  | v :: l, i, h => PySem.W.kat_cons (SeqAt.EqAt.same v prog w _ _ (PySem.W.kat_yes (lex_same l (i + 1) h)))
theorem lead_cmp {vs : List Value} {k : Value → Int × Int} (hp : ∀ v ∈ vs, IsLead s.heap v (k v).1 (k v).2) (hi : ∀ v ∈ vs, ∀ u ∈ vs, k v = k u → v = u) : Cmp prog w A s (tuples' true) (fun p => p.1 ∈ vs) (lt2 fun v u => lexB (k v) (k u)) := by
  intro p q hm hm'
  have h1 := hp _ hm
  have h2 := hp _ hm'
  show wpAny (model prog w) A (keyLt' (tuples' true) p.1 q.1) (fun r s' => s' = s ∧ r = lexB (k p.1) (k q.1)) (fun _ _ => False) s
  by_cases ee : p.1 = q.1
  · have e0 : lexB (k p.1) (k q.1) = false := by
      rw [ee]
      exact (swo_lex k).refl q.1
    rw [e0, ← ee]
    obtain ⟨a, o, t, u, n, r, e, ho, hc, hd⟩ := h1
    rw [e]
    refine PySem.W.kat_lt ho hd ho hd ?_
    refine lex_same _ _ ⟨rfl, ?_⟩
    exact decide_eq_false (Nat.lt_irrefl _)
  · have hne : ¬ ((k p.1).1 = (k q.1).1 ∧ (k p.1).2 = (k q.1).2) := fun c => ee (hi _ hm _ hm' (Prod.ext c.1 c.2))
    unfold lexB
    generalize (k p.1).1 = x at h1 hne ⊢
    generalize (k p.1).2 = y at h1 hne ⊢
    generalize (k q.1).1 = x' at h2 hne ⊢
    generalize (k q.1).2 = y' at h2 hne ⊢
    obtain ⟨a, o, t, u, n, r, e, ho, hc, hd⟩ := h1
    obtain ⟨a', o', t', u', n', r', e', ho', hc', hd'⟩ := h2
    rw [e, e']
    refine PySem.W.kat_lt ho hd ho' hd' ?_
    have ez : ((Value.int x t :: Value.int y u :: r : List Value).toArray.toList.zip (Value.int x' t' :: Value.int y' u' :: r' : List Value).toArray.toList) = (.int x t, .int x' t') :: (.int y u, .int y' u') :: r.zip r' := rfl
    rw [ez]
    refine PySem.W.kat_cons (SeqAt.EqAt.int_int x t x' t' prog w _ _ ?_)
    refine PySem.W.kat_go (fun e1 => ?_) (fun e1 => ?_)
    · have ex : x = x' := by simpa using e1
      refine PySem.W.kat_yes (PySem.W.kat_cons (SeqAt.EqAt.int_int y u y' u' prog w _ _ ?_))
      refine PySem.W.kat_go (fun e2 => ?_) (fun e2 => ?_)
      · have ey : y = y' := by simpa using e2
        exact absurd ⟨ex, ey⟩ hne
      · have e3 : (if x = x' then decide (y < y') else decide (x < x')) = decide (y < y') := if_pos ex
        refine PySem.W.kat_no (PySem.W.kat_one _ _ (PyProof.Rows.lt_int ?_))
        exact (show s = s ∧ decide (y < y') = (if x = x' then decide (y < y') else decide (x < x')) from ⟨rfl, e3.symm⟩)
    · have ex : ¬ x = x' := by simpa using e1
      have e3 : (if x = x' then decide (y < y') else decide (x < x')) = decide (x < x') := if_neg ex
      exact PySem.W.kat_no (oneLt_int ⟨rfl, e3.symm⟩)
theorem firsts_lead {h : Heap} : ∀ {vs : List Value}, (∀ v ∈ vs, ∃ x y, IsLead h v x y) → ∃ fs : List Value, PySem.W.KatTups h vs fs ∧ fs.length = vs.length ∧ ∀ f ∈ fs, ∃ x t, f = Value.int x t
  | [], _ => ⟨[], .nil, rfl, fun _ h => absurd h List.not_mem_nil⟩
  | v :: vs, hv => by
    obtain ⟨fs, h1, h2, h3⟩ := firsts_lead fun u hu => hv u (List.mem_cons_of_mem _ hu)
    obtain ⟨x, y, a, o, t, u, n, r, rfl, ho, hc, hd⟩ := hv v List.mem_cons_self
    refine ⟨.int x t :: fs, PySem.W.KatTups.cons ho hc hd (by simp) h1, by simp [h2], fun f hf => ?_⟩
    rcases List.mem_cons.mp hf with rfl | hf
    · exact ⟨x, t, rfl⟩
    · exact h3 f hf
theorem leads_sortable {a : Addr} {vs : List Value} {k : Value → Int × Int} (h0 : 0 < vs.length) (hp : ∀ v ∈ vs, IsLead s.heap v (k v).1 (k v).2) (hi : ∀ v ∈ vs, ∀ u ∈ vs, k v = k u → v = u) (ha : ∀ o, s.heap.get? a = some o → o.cls ≠ .type "tuple") : SortableO prog w A s a vs fun v u => lexB (k v) (k u) := by
  intro h' keep
  have hp' : ∀ v ∈ vs, IsLead h' v (k v).1 (k v).2 := fun v hm => (hp v hm).keeps fun b o e c => keep b o (fun z => by subst z; exact ha o e c) e
  obtain ⟨fs, h1, h2, h3⟩ := firsts_lead fun v hm => ⟨_, _, hp' v hm⟩
  refine ⟨tuples' true, fun Q E hq => ?_, lead_cmp hp' hi⟩
  refine PySem.W.kat_kind (T := .type "int") h1 (by omega) (fun f hm => ?_) (by rfl) ?_
  · obtain ⟨x, t, rfl⟩ := h3 f hm
    exact PySem.W.Looks.now
  · have e : (Value.type "int" != Value.type "tuple") = true := by first | decide +kernel | rfl | decide
    rw [e]
    exact hq
theorem sorted_leads {l : Addr} {vs : List Value} {k : Value → Int × Int} {Q : Value → Shared → Prop} (hl : s.heap.IsList l vs.toArray) (hz : vs.length ≤ sizeLine) (hp : ∀ v ∈ vs, IsLead s.heap v (k v).1 (k v).2) (hi : ∀ v ∈ vs, ∀ u ∈ vs, k v = k u → v = u)
    (h : ∀ (h' : Heap) (d : Addr) (out : List Value), Srtd (fun v u => lexB (k v) (k u)) out → Stb (fun v u => lexB (k v) (k u)) out vs → (∀ b o, s.heap.get? b = some o → h'.get? b = some o) → s.heap.objs.size ≤ d → (∃ n, h'.get? d = some (seqObj "list" out.toArray n)) → Q (.ref d) { s with heap := h' }) :
    wpAny (model prog w) A (call (.builtin "sorted") [.ref l]) Q E s := by
  refine sorted_ord (swo_lex k) hl hz (fun h2 h₁ a ha kk => ?_) fun out hs hb => ?_
  · refine leads_sortable (s := { s with heap := h₁ }) (by omega) (fun v hm => (hp v hm).keeps fun b o e _ => (kk b o e).2) hi fun o e => ?_
    have e' : some o = some (seqObj "list" vs.toArray 0) := e.symm.trans ha
    cases e'
    intro c
    exact absurd (Value.type.inj c) (by decide)
  · exact h _ _ out hs hb (fun b o e => sortedAll_old e) (Nat.le_succ _) (sortedAll_at s.heap vs out.toArray)
end
/-- the two leading ints of a tuple, by the heap -/
def keyH (h : Heap) (v : Value) : Int × Int := match v with
  | .ref a => (match h.get? a with
    | some o => (match o.data with
      | .seq its _ => (match its.toList with
        | .int x _ :: .int y _ :: _ => (x, y)
        | _ => (0, 0))
      | _ => (0, 0))
    | none => (0, 0))
  | _ => (0, 0)
theorem keyH_of {h : Heap} {v : Value} {x y : Int} (p : IsLead h v x y) : keyH h v = (x, y) := by
  obtain ⟨a, o, t, u, n, r, rfl, ho, hc, hd⟩ := p
  unfold keyH
  simp only [ho, hd]
end SrL
namespace DL
open PySem L2 Evl PySem.Spec PyProof.Rows
def rSortL (K : PySem.W.Frag) : List V → Hp → VK → Prop := fun vs H Q => ∃ (a : Addr) (zs : List (V × (Int × Int))), vs = [.ref a] ∧ SqL K H a (zs.map (·.1)) ∧ (∀ z ∈ zs, ∃ t r, z.1 = .ref t ∧ SqT K H t (.int z.2.1 :: .int z.2.2 :: r)) ∧ (∀ z ∈ zs, ∀ z' ∈ zs, z.2 = z'.2 → z.1 = z'.1) ∧
  ∀ (qs : List (V × (Int × Int))) (p : Addr), qs.Perm zs → (qs.map (·.2)).Pairwise lexLe → H p = none → Q (.ref p) (upd H p (.lst (qs.map (·.1))))
section
variable {X : Cx}
theorem cr_sortL : CallR X (.builtin "sorted") (rSortL X.K) := by
  intro pins s σ H vs us Q I r h
  obtain ⟨a, zs, rfl, hs, hx, hi, q⟩ := h
  obtain ⟨its, rv, hl, hz⟩ := I.list hs
  obtain ⟨u, rfl, ru⟩ := vals1 r
  obtain rfl : u = Value.ref a := ru
  have hlead : ∀ z ∈ zs, ∀ t, z.1 = V.ref t → SrL.IsLead s.heap (.ref t) z.2.1 z.2.2 := by
    intro z hz t e
    obtain ⟨t', r, e', ht⟩ := hx z hz
    rw [e] at e'
    cases e'
    obtain ⟨its2, r2, ⟨o, ho, hc, n, hd⟩, _⟩ := I.tuple ht
    obtain ⟨u1, r3, e1, ri, r4⟩ : ∃ u1 r3, its2 = u1 :: r3 ∧ RelV (.int z.2.1) u1 ∧ Vals (.int z.2.2 :: r) r3 := by
      cases r2 with
      | cons a b => exact ⟨_, _, rfl, a, b⟩
    obtain ⟨u2, r5, e2, rj, _⟩ : ∃ u2 r5, r3 = u2 :: r5 ∧ RelV (.int z.2.2) u2 ∧ Vals r r5 := by
      cases r4 with
      | cons a b => exact ⟨_, _, rfl, a, b⟩
    obtain ⟨t1, rfl⟩ := ri
    obtain ⟨t2, rfl⟩ := rj
    subst e2
    subst e1
    exact ⟨t, o, t1, t2, n, r5, rfl, ho, hc, hd⟩
  have hrefs : ∀ x ∈ zs.map (·.1), ∃ t, x = V.ref t := fun x m => by
    obtain ⟨z, hz, rfl⟩ := List.mem_map.mp m
    obtain ⟨t, _, e, _⟩ := hx z hz
    exact ⟨t, e⟩
  obtain ⟨e1, e2⟩ := refs_back rv hrefs
  have ezs : zs = its.map fun v => (backV v, SrL.keyH s.heap v) := by
    refine List.ext_getElem? fun i => ?_
    have g : (zs.map (·.1))[i]? = (its.map backV)[i]? := by rw [e1]
    rw [List.getElem?_map, List.getElem?_map] at g
    rw [List.getElem?_map]
    cases hi' : zs[i]? with
    | none =>
      rw [hi'] at g
      cases hj : its[i]? with
      | none => rfl
      | some v => rw [hj] at g; cases g
    | some z =>
      rw [hi'] at g
      cases hj : its[i]? with
      | none => rw [hj] at g; cases g
      | some v =>
        rw [hj] at g
        have g := Option.some.inj g
        obtain ⟨t, rfl⟩ := e2 v (List.mem_of_getElem? hj)
        have g' : z.1 = V.ref t := g
        have k := SrL.keyH_of (hlead z (List.mem_of_getElem? hi') t g')
        show some z = some (backV (.ref t), SrL.keyH s.heap (.ref t))
        rw [k]
        obtain ⟨z1, z2⟩ := z
        cases g'
        rfl
  have hzm : ∀ v ∈ its, (backV v, SrL.keyH s.heap v) ∈ zs := fun v hv => by rw [ezs]; exact List.mem_map.mpr ⟨v, hv, rfl⟩
  refine SrL.sorted_leads (k := SrL.keyH s.heap) hl.isList (by rw [← rv.length]; exact hz) (fun v hv => ?_) (fun v hv u hu e => ?_) fun h' d out h1 h2 kp hd hn => ?_
  · obtain ⟨t, rfl⟩ := e2 v hv
    exact hlead _ (hzm _ hv) t rfl
  · have := hi _ (hzm v hv) _ (hzm u hu) e
    obtain ⟨t, rfl⟩ := e2 v hv
    obtain ⟨t', rfl⟩ := e2 u hu
    have : V.ref t = V.ref t' := this
    cases this
    rfl
  · have h3 : ∀ u ∈ out, ∃ a, u = Value.ref a := fun u hu => e2 u (h2.perm.mem_iff.mp hu)
    obtain ⟨n, hn⟩ := hn
    have hlen : (out.map backV).length ≤ sizeLine := by
      rw [List.length_map, h2.perm.length_eq, ← rv.length]
      exact hz
    have e4 : (out.map fun v => (backV v, SrL.keyH s.heap v)).map (·.1) = out.map backV := by rw [List.map_map]; rfl
    have e5 : (out.map fun v => (backV v, SrL.keyH s.heap v)).map (·.2) = out.map (SrL.keyH s.heap) := by rw [List.map_map]; rfl
    refine ⟨.ref d, upd H d (.lst (out.map backV)), I.laid (t' := s.toks) kp hd ⟨hlen, out, n, vals_back h3, hn⟩, rfl, ?_⟩
    rw [← e4]
    refine q _ d ?_ ?_ (I.hok.fresh hd)
    · rw [ezs]
      exact h2.perm.map _
    · rw [e5, List.pairwise_map]
      refine List.Pairwise.imp (fun {a b} hab => ?_) h1
      have := SrtO.lexB_no.mp hab
      show lexLe _ _
      unfold lexLe
      omega
end
/-! ### the same by data -/
/-- the two leading ints of each -/
def keys2 : List D → Option (List (Int × Int))
  | [] => some []
  | .tup (.v (.int i) :: .v (.int j) :: _) :: r => (keys2 r).map ((i, j) :: ·)
  | _ => none
def lexLeB (p q : Int × Int) : Bool := decide (p.1 < q.1) || (decide (p.1 = q.1) && decide (p.2 ≤ q.2))
theorem lexLeB_iff {p q : Int × Int} : lexLeB p q = true ↔ lexLe p q := by
  unfold lexLeB lexLe
  rw [Bool.or_eq_true, Bool.and_eq_true, decide_eq_true_eq, decide_eq_true_eq, decide_eq_true_eq]
def insL (a : D × (Int × Int)) : List (D × (Int × Int)) → List (D × (Int × Int))
  | [] => [a]
  | b :: r => if lexLeB a.2 b.2 = true then a :: b :: r else b :: insL a r
def sortL : List (D × (Int × Int)) → List (D × (Int × Int))
  | [] => []
  | a :: r => insL a (sortL r)
theorem insL_perm {a : D × (Int × Int)} : ∀ {r : List (D × (Int × Int))}, (insL a r).Perm (a :: r)
  | [] => .refl _
  | b :: r => by
    unfold insL
    split
    · exact .refl _
    · exact (List.Perm.cons b insL_perm).trans (.swap a b r)
theorem sortL_perm : ∀ {r : List (D × (Int × Int))}, (sortL r).Perm r
  | [] => .refl _
  | a :: r => insL_perm.trans (.cons a sortL_perm)
abbrev SrtdL (l : List (D × (Int × Int))) : Prop := l.Pairwise fun a b => lexLe a.2 b.2
theorem lexLe_tot {p q : Int × Int} (h : ¬ lexLe p q) : lexLe q p := by
  unfold lexLe at h ⊢
  omega
theorem lexLe_tr {p q r : Int × Int} (h : lexLe p q) (h' : lexLe q r) : lexLe p r := by
  unfold lexLe at h h' ⊢
  omega
theorem lexLe_anti {p q : Int × Int} (h : lexLe p q) (h' : lexLe q p) : p = q := by
  unfold lexLe at h h'
  exact Prod.ext (by omega) (by omega)
theorem insL_sorted {a : D × (Int × Int)} : ∀ {r : List (D × (Int × Int))}, SrtdL r → SrtdL (insL a r)
  | [], _ => by simp [insL, SrtdL]
  | b :: r, h => by
    unfold insL
    have hb := List.pairwise_cons.mp h
    split
    · rename_i q
      have q := lexLeB_iff.mp q
      exact List.pairwise_cons.mpr ⟨fun c hc => by
        rcases List.mem_cons.mp hc with rfl | hc
        · exact q
        · exact lexLe_tr q (hb.1 c hc), h⟩
    · rename_i q
      have q : ¬ lexLe a.2 b.2 := fun c => q (lexLeB_iff.mpr c)
      refine List.pairwise_cons.mpr ⟨fun c hc => ?_, insL_sorted hb.2⟩
      rcases List.mem_cons.mp (insL_perm.mem_iff.mp hc) with rfl | hc
      · exact lexLe_tot q
      · exact hb.1 c hc
theorem sortL_sorted : ∀ {r : List (D × (Int × Int))}, SrtdL (sortL r)
  | [] => .nil
  | _ :: _ => insL_sorted sortL_sorted
theorem key_inj {α : Type} {l : List (α × (Int × Int))} (h : (l.map (·.2)).Nodup) : ∀ x ∈ l, ∀ y ∈ l, x.2 = y.2 → x = y := by
  induction l with
  | nil => intro x hx; cases hx
  | cons a r ih =>
    rw [List.map_cons, List.nodup_cons] at h
    intro x hx y hy e
    rcases List.mem_cons.mp hx with hx1 | hx1
    · rcases List.mem_cons.mp hy with hy1 | hy1
      · rw [hx1, hy1]
      · exact absurd (List.mem_map.mpr ⟨y, hy1, by rw [← e, hx1]⟩) h.1
    · rcases List.mem_cons.mp hy with hy1 | hy1
      · exact absurd (List.mem_map.mpr ⟨x, hx1, by rw [e, hy1]⟩) h.1
      · exact ih h.2 x hx1 y hy1 e
theorem sortedL_uniq : ∀ {a b : List (D × (Int × Int))}, a.Perm b → (b.map (·.2)).Nodup → SrtdL a → SrtdL b → a = b
  | [], b, p, _, _, _ => (List.Perm.nil_eq p)
  | x :: a, [], p, _, _, _ => absurd p.symm (by intro h; have := h.length_eq; simp at this)
  | x :: a, y :: b, p, hn, ha, hb => by
    have ha' := List.pairwise_cons.mp ha
    have hb' := List.pairwise_cons.mp hb
    have hx : x ∈ y :: b := p.mem_iff.mp (by simp)
    have hy : y ∈ x :: a := p.mem_iff.mpr (by simp)
    have e : x = y := by
      rcases List.mem_cons.mp hx with h | h
      · exact h
      · rcases List.mem_cons.mp hy with h' | h'
        · exact h'.symm
        · exact key_inj hn x hx y List.mem_cons_self (lexLe_anti (ha'.1 y h') (hb'.1 x h))
    subst e
    rw [List.map_cons, List.nodup_cons] at hn
    rw [sortedL_uniq (List.Perm.cons_inv p) hn.2 ha'.2 hb'.2]
/-- a rearrangement of images is an image of a rearrangement -/
theorem perm_map_ex {α β : Type} (f : α → β) : ∀ {t : List α} {l : List β}, l.Perm (t.map f) → ∃ t' : List α, t'.Perm t ∧ l = t'.map f
  | [], l, h => ⟨[], .refl _, by simpa using h⟩
  | a :: t, l, h => by
    have hm : f a ∈ l := h.mem_iff.mpr (by simp)
    obtain ⟨x, y, rfl⟩ := List.append_of_mem hm
    have h2 : (x ++ y).Perm (t.map f) := by
      have h3 : (f a :: (x ++ y)).Perm (f a :: t.map f) := (List.perm_middle.symm).trans h
      exact List.Perm.cons_inv h3
    obtain ⟨t', p, e⟩ := perm_map_ex f h2
    obtain ⟨A, B, rfl, rfl, rfl⟩ := List.append_eq_map_iff.mp e
    exact ⟨A ++ a :: B, List.perm_middle.trans (.cons a p), by simp⟩
section
variable {K : PySem.W.Frag} {Wx : WX} {w w1 w2 w' : Wd} {σ : L2.St} {ρ : Rho} {μ : Mu}
def dSortL : DC := fun xs μ P _ => ∃ x ds ps, xs = [x] ∧ seqOf μ x = some (ds, false) ∧ isLst μ x = true ∧ keys2 ds = some ps ∧ ps.Nodup ∧ P (.d (.lst ((sortL (ds.zip ps)).map (·.1)))) μ
theorem keys2_ats {G : Hp} : ∀ {ds : List D} {vs : List V} {ps : List (Int × Int)}, keys2 ds = some ps → Ats K G ds vs → ∃ ts : List (D × V × (Int × Int)), ds.zip ps = ts.map (fun t => (t.1, t.2.2)) ∧ ds = ts.map (·.1) ∧ vs = ts.map (·.2.1) ∧ ps = ts.map (·.2.2) ∧ ∀ t ∈ ts, At K G t.1 t.2.1 ∧ ∃ a r, t.2.1 = .ref a ∧ SqT K G a (.int t.2.2.1 :: .int t.2.2.2 :: r)
  | [], _, ps, h, .nil => by
    cases h
    exact ⟨[], rfl, rfl, rfl, rfl, fun _ h => absurd h List.not_mem_nil⟩
  | d :: ds, _, ps, h, .cons (v := v) a t => by
    unfold keys2 at h
    split at h
    · rename_i e; cases e
    · rename_i i j r' dr e
      cases e
      cases q : keys2 ds with
      | none => rw [q] at h; cases h
      | some ps' =>
        rw [q] at h
        cases h
        obtain ⟨ts, e1, e2, e3, e4, e5⟩ := keys2_ats q t
        refine ⟨(_, v, (i, j)) :: ts, by rw [List.zip_cons_cons, e1]; rfl, by rw [List.map_cons, ← e2], by rw [List.map_cons, ← e3], by rw [List.map_cons, ← e4], fun t ht => ?_⟩
        rcases List.mem_cons.mp ht with rfl | ht
        · refine ⟨a, ?_⟩
          cases a with
          | tup h1 h2 =>
            cases h2 with
            | cons a1 h2 =>
              cases h2 with
              | cons a2 h2 =>
                cases a1
                cases a2
                exact ⟨_, _, rfl, h1⟩
        · exact e5 t ht
    · cases h
theorem ts_ats {G : Hp} : ∀ {ts : List (D × V × (Int × Int))}, (∀ t ∈ ts, At K G t.1 t.2.1) → Ats K G (ts.map (·.1)) (ts.map (·.2.1))
  | [], _ => .nil
  | t :: ts, h => .cons (h t List.mem_cons_self) (ts_ats fun t ht => h t (List.mem_cons_of_mem _ ht))
theorem opc_sortL : OpC K Wx (rSortL K) dSortL := fun {w σ μ xs vs P R} ok hx h {Q} qn _ => by
  obtain ⟨x, ds, ps, rfl, e, el, ek, hn, p⟩ := h
  obtain ⟨v, rfl, av⟩ := wats1 hx
  obtain ⟨a, ys, rfl, hs, hd⟩ := lstS_ok ok av e el
  have hd : Ats K w.G ds ys := hd
  obtain ⟨ts, e1, e2, e3, e4, e5⟩ := keys2_ats ek hd
  have m1 : (ts.map fun t => (t.2.1, t.2.2)).map (·.1) = ys := by rw [List.map_map, e3]; rfl
  have m2 : ((ts.map fun t => (t.2.1, t.2.2)).map (·.2)).Nodup := by
    rw [List.map_map]
    have : ts.map ((fun x : V × (Int × Int) => x.2) ∘ fun t => (t.2.1, t.2.2)) = ps := e4.symm
    rw [this]
    exact hn
  refine ⟨a, ts.map fun t => (t.2.1, t.2.2), rfl, by rw [m1]; exact hs, fun z hz => ?_, fun z hz z' hz' ee => ?_, fun qs c g1 g2 hc => ?_⟩
  · obtain ⟨t, ht, rfl⟩ := List.mem_map.mp hz
    obtain ⟨_, b, r, eb, hb⟩ := e5 t ht
    exact ⟨b, r, eb, ex_t (ok.gb.trans ok.bh) hb⟩
  · rw [key_inj m2 z hz z' hz' ee]
  · obtain ⟨ts', pt, rfl⟩ := perm_map_ex _ g1
    have h5 : ∀ t ∈ ts', At K w.G t.1 t.2.1 := fun t ht => (e5 t (pt.mem_iff.mp ht)).1
    have es : sortL (ds.zip ps) = ts'.map fun t => (t.1, t.2.2) := by
      refine (sortedL_uniq ?_ ?_ ?_ sortL_sorted).symm
      · rw [e1]
        exact (pt.map _).trans (by rw [← e1]; exact sortL_perm.symm)
      · have pm : ((sortL (ds.zip ps)).map (·.2)).Perm ps := by
          have := (sortL_perm (r := ds.zip ps)).map (·.2)
          refine this.trans ?_
          rw [e1, List.map_map]
          have : ts.map ((fun x : D × (Int × Int) => x.2) ∘ fun t => (t.1, t.2.2)) = ps := e4.symm
          rw [this]
        exact pm.nodup_iff.mpr hn
      · rw [List.map_map, List.pairwise_map] at g2
        exact List.pairwise_map.mpr g2
    rw [es, List.map_map] at p
    have m3 : (ts'.map fun t => (t.2.1, t.2.2)).map (·.1) = ts'.map (·.2.1) := by rw [List.map_map]; rfl
    rw [m3]
    exact newLst_ok ok (ts_ats h5) (newLst_D p) qn hc
end
end DL
namespace FR
open PySem L2 Evl DL
section
variable {ga : Str → Addr}
def nodupB : List (Int × Int) → Bool
  | [] => true
  | p :: r => !(r.contains p) && nodupB r
theorem nodupB_ok : ∀ {l : List (Int × Int)}, nodupB l = true ↔ l.Nodup
  | [] => by simp [nodupB]
  | p :: r => by
    rw [nodupB, Bool.and_eq_true, nodupB_ok, List.nodup_cons]
    simp
def cSortL : FC := fun xs μ => match xs with
  | [x] => (match seqOf μ x with
    | some (ds, false) => (match keys2 ds with
      | some ps => if isLst μ x = true ∧ nodupB ps = true then some (.ok (.d (.lst ((sortL (ds.zip ps)).map (·.1)))) μ) else none
      | none => none)
    | _ => none)
  | _ => none
theorem run_sortL : RunC ga dSortL cSortL := fun xs μ => by
  unfold cSortL
  split
  · rename_i x
    split
    · rename_i ds e
      split
      · rename_i ps e2
        exact sat_if fun q => sat_ok fun P R p => ⟨x, ds, ps, rfl, e, q.1, e2, nodupB_ok.mp q.2, p⟩
      · exact sat_none
    · exact sat_none
  · exact sat_none
end
end FR

set_option Elab.async false
set_option linter.all false
set_option maxRecDepth 100000
set_option maxHeartbeats 4000000
/-! FR, part twenty-six: enumerate of a list or a tuple. -/
namespace FR
open PySem L2 Evl DL
section
variable {X : Cx} {Wx : WX} {K : PySem.W.Frag} {ga : Str → Addr} {a b e o : Expr} {tA : TA} {dA : DAr} {pos p : Pos}
def iEnB (K : PySem.W.Frag) (ta : TA) : TI := fun σ H Q => iEnum K ta σ H Q ∨ EnT.iEnumT K ta σ H Q
def dIEB (da : DAr) : DI := fun ρ μ P R => dIE da ρ μ P R ∨ dIET da ρ μ P R
def iEB (f : FA) : FI := fun ρ μ => bd (f ρ μ) fun xs μ' => match xs with
  | [x] => (match fixOf x with
    | some (ds, l, _) => some (.ok (enums l 0 ds) μ')
    | _ => none)
  | _ => none
end
end FR

set_option Elab.async false
set_option linter.all false
set_option maxRecDepth 100000
set_option maxHeartbeats 4000000
/-! FR, part twenty-seven: lists and tuples taken apart into targets. -/
namespace FR
open PySem L2 Evl DL
section
variable {X : Cx} {Wx : WX} {K : PySem.W.Frag} {w : Wd} {es : List Expr} {pos : Pos}
def gSq (K : PySem.W.Frag) (n : Nat) (t : TGs) : TG := fun v σ H Q => ∃ a xs, v = .ref a ∧ (SqL K H a xs ∨ SqT K H a xs) ∧ xs.length = n ∧ t xs σ H Q
def dGSq (n : Nat) (dr : DGs) : DG := fun x ρ μ N => ∃ ds l, seqOf μ x = some (ds, l) ∧ ds.length = n ∧ dr (ds.map (item l)) ρ μ N
def gSqF (n : Nat) (f : FGs) : FG := fun x ρ μ => match seqOf μ x with
  | some (ds, l) => if ds.length = n then f (ds.map (item l)) ρ μ else none
  | none => none
end
end FR

set_option Elab.async false
set_option linter.all false
set_option maxRecDepth 100000
set_option maxHeartbeats 4000000
/-! FR, part twenty-eight: f'{n:b}', zfill, bit_length, a class's constants. -/
namespace FmB
open PySem
open Builtin Builtin.Str Builtin.Int Builtin.Float
def binS (n : Nat) : Str := ⟨((Nat.toDigits 2 n).map Char.toNat).toArray⟩
def specB : FormatSpec := { fill := 32, align := 62, sign := none, noNeg0 := false, alt := false, width := none, grouping := none, precision := none, type := some 98 }
theorem gives_int_format_b (n : Nat) (t u : Tok) : Gives («int.__format__» ⟨[.int (Int.ofNat n) t, .str ⟨#[98]⟩ u], []⟩) (.str (binS n)) := by
  have key : Gives (do
    let _kind ← typeNameOf (.str ⟨#[98]⟩ u)
    let _name ← typeNameOfCut 200 (.int (Int.ofNat n) t)
    retStr (PySem.W.Num.intField specB (decide ((Int.ofNat n) < 0)) [] ((Nat.toDigits 2 n).map Char.toNat) [] 4)) (.str (binS n)) := by
    refine gives_after_typeNameOf (T := "str") (fun s => typeIs_str s _ _) (by decide) fun _ => ?_
    have e : PySem.W.Num.intField specB (decide ((Int.ofNat n) < 0)) [] ((Nat.toDigits 2 n).map Char.toNat) [] 4 = binS n := by
      have d : decide ((Int.ofNat n) < 0) = false := decide_eq_false (by show ¬ ((n : Int) < 0); omega)
      rw [d]
      unfold PySem.W.Num.intField specB binS
      generalize (Nat.toDigits 2 n).map Char.toNat = ds
      cases ds with
      | nil => simp
      | cons a r =>
        simp
        omega
    rw [e]
    exact fun prog w A R s hq => PySem.wpAny_bind (PyProof.Rows.wpAny_typeNameOfCut_int ((Gives.of_eq rfl : Gives (retStr (binS n)) (.str (binS n))) prog w A R s hq))
  have q : «int.__format__» ⟨[.int (Int.ofNat n) t, .str ⟨#[98]⟩ u], []⟩ = (do
    let _kind ← typeNameOf (.str ⟨#[98]⟩ u)
    let _name ← typeNameOfCut 200 (.int (Int.ofNat n) t)
    retStr (PySem.W.Num.intField specB (decide ((Int.ofNat n) < 0)) [] ((Nat.toDigits 2 n).map Char.toNat) [] 4)) := by kernel_rfl
  rw [q]
  exact key
end FmB
namespace FR
open PySem L2 Evl DL
open FmB (binS)
theorem b_text : Str.ofString "b" = ⟨#[98]⟩ := by decide +kernel
def tFmB (te : TE) : TE := fun σ H Q => te σ H fun x H1 => ∃ n : Nat, x = .int (n : Int) ∧ (binS n).length ≤ sizeLine ∧ Q (.str (binS n)) H1
section
variable {X : Cx} {Wx : WX} {K : PySem.W.Frag} {o e sp : Expr} {to te : TE} {dx de : DE} {apos cpos p1 p2 : Pos} {ga : Str → Addr}
theorem pe_fmB (he : PE X e te) (hs : PE X sp (tC (V.str (Str.ofString "b")))) : PE X (.FormattedValue e (-1) (some sp) p1) (tFmB te) := by
  refine ⟨fun pins s σ H Q I h => ?_⟩
  refine PySem.wpAny_FormattedValue_spec (thn (he.run pins s σ H _ I h) fun v s1 hv => ?_)
  obtain ⟨x, H1, I1, r1, n, rfl, hz, q⟩ := hv
  obtain ⟨t, rfl⟩ := r1
  refine thn (hs.run pins s1 σ H1 (fun x H2 => x = V.str (Str.ofString "b") ∧ H2 = H1) I1 ⟨rfl, rfl⟩) fun r s2 hr => ?_
  obtain ⟨y, H2, I2, r2, rfl, rfl⟩ := hr
  obtain ⟨tk, rfl⟩ := r2
  refine ⟨_, tk, rfl, ?_⟩
  rw [b_text]
  exact PySem.wpAny_formatField_spec (T := "int") (by decide) (fun s' => typeIs_int s' _ t) F.slot_int_format F.entry_int_format F.args_int_format_2 (fun u => FmB.gives_int_format_b n t u) ⟨.str (binS n), _, I2.tok _, ⟨_, rfl⟩, q⟩ (by decide) hz
def dFmB (de : DE) : DE := fun ρ μ P R => de ρ μ (fun x μ1 => ∃ n : Nat, x = wi (n : Int) ∧ small (binS n).length ∧ P (ws (binS n)) μ1) R
theorem b_fmB (he : BE X Wx e te de) (hs : PE X sp (tC (V.str (Str.ofString "b")))) : BE X Wx (.JoinedStr [.FormattedValue e (-1) (some sp) p1] p2) (tFmB te) (dFmB de) :=
  ⟨pe_joined1 (pe_fmB he.pe hs), fun {w σ ρ μ P R} ok st q {Q} qn qx => he.sim ok st q (fun w1 μ1 x v s1 ok1 ax q1 => by
    obtain ⟨n, rfl, hz, p⟩ := q1
    cases ax
    exact ⟨n, rfl, small_ok hz, (qn.step s1).now ok1 .imm p⟩) qx⟩
def fFmB (f : FE) : FE := fun ρ μ => bd (f ρ μ) fun x μ1 => match x with
  | .d (.v (.int i)) => if (leI 0 i && smallB (binS i.toNat).length) = true then some (.ok (ws (binS i.toNat)) μ1) else none
  | _ => none
theorem run_fmB {f : FE} (h : RunE ga de f) : RunE ga (dFmB de) (fFmB f) := fun ρ μ => sat_bd (h ρ μ) (w' := fun x μ1 P R => ∃ n : Nat, x = wi (n : Int) ∧ small (binS n).length ∧ P (ws (binS n)) μ1) (fun x μ1 => by
  split
  · rename_i i
    refine sat_if fun q => sat_ok fun P R p => ?_
    rw [Bool.and_eq_true, leI_iff] at q
    exact ⟨i.toNat, by rw [Int.toNat_of_nonneg q.1], smallB_ok q.2, p⟩
  · exact sat_none) fun _ _ p => p
/-! ### x.zfill(n) -/
def dZf (dx dy : DE) : DE := fun ρ μ P R => dx ρ μ (fun x μ1 => ∃ a, x = ws a ∧ dy ρ μ1 (fun y μ2 => ∃ i, y = wi i ∧ PadOk i = true ∧ P (ws (Txt.zfill a i)) μ2) R) R
def rZf : V → List V → Hp → VK → Prop := fun x xs H Q => ∃ (a : Str) (i : Int), x = .str a ∧ xs = [.int i] ∧ PadOk i = true ∧ Q (.str (Txt.zfill a i)) H
theorem b_zfill (ho : BE X Wx o to dx) (h : BE X Wx e te de) (hK : K = X.K := by rfl) (hbase : attributeBase o "zfill" X.env (eval o X.env) = eval o X.env := by rfl)
    (hfew : ((backTo cpos (starEach [e] X.env)).all (fun x => !x.1) && (backToKw cpos (keywordEach [] X.env)).all (fun x => x.1.isSome)
      && decide ([e].length + ([] : List Keyword).length + (if ([] : List Keyword).isEmpty then 0 else 1) < 30)) = true := by rfl)
    (hline : (apos.endLine == cpos.line) = true := by rfl) (hs : starEach [e] X.env = (false, eval e X.env) :: starEach [] X.env := by rfl) (hplain : (backTo cpos (starEach [] X.env)).any (·.1) = false := by rfl) :
    BE X Wx (.Call (.Attribute o "zfill" apos) [e] [] cpos) (tBM K "str" rZf to (tCons te tNil)) (dZf dx de) := by
  subst hK
  refine ⟨pe_bm PySem.F.plainAttrs_str PySem.F.slot_str_zfill PySem.F.type_str_zfill mt_zfill ho.pe (pa_cons h.pe pa_nil hs) hbase hfew hline hs hplain, fun {w σ ρ μ P R} ok st q {Q} qn qx => ?_⟩
  exact ho.sim ok st q (fun w1 μ1 x v s1 ok1 ax q1 => by
    obtain ⟨a, rfl, q1⟩ := q1
    cases ax
    exact ⟨rfl, h.sim ok1 (st.step s1) q1 (fun w2 μ2 y u s2 ok2 ay q2 => by
      obtain ⟨i, rfl, hp, p⟩ := q2
      cases ay
      exact ⟨a, i, rfl, rfl, hp, qn w2 μ2 _ _ (s1.trans s2) ok2 .imm p⟩) (qx.step s1)⟩) qx
def fZf (f g : FE) : FE := fun ρ μ => bd (f ρ μ) fun x μ1 => match x with
  | .d (.v (.str a)) => bd (g ρ μ1) (fun y μ2 => match y with
    | .d (.v (.int i)) => if PadOk i = true then some (.ok (ws (Txt.zfill a i)) μ2) else none
    | _ => none)
  | _ => none
theorem run_zf {f g : FE} (h : RunE ga dx f) (h' : RunE ga de g) : RunE ga (dZf dx de) (fZf f g) := fun ρ μ => by
  refine sat_bd (h ρ μ) (w' := fun x μ1 P R => ∃ a, x = ws a ∧ de ρ μ1 (fun y μ2 => ∃ i, y = wi i ∧ PadOk i = true ∧ P (ws (Txt.zfill a i)) μ2) R) (fun x μ1 => ?_) fun _ _ p => p
  split
  · rename_i a
    refine (sat_bd (h' ρ μ1) (w' := fun y μ2 P R => ∃ i, y = wi i ∧ PadOk i = true ∧ P (ws (Txt.zfill a i)) μ2) (fun y μ2 => ?_) fun _ _ p => p).imp fun P R p => ⟨a, rfl, p⟩
    split
    · exact sat_if fun q => sat_ok fun P R p => ⟨_, rfl, q, p⟩
    · exact sat_none
  · exact sat_none
/-! ### x.bit_length() -/
def dBits (dx : DE) : DE := fun ρ μ P R => dx ρ μ (fun x μ1 => ∃ i, x = wi i ∧ P (wi (Builtin.Int.intBits i : Nat)) μ1) R
def fBits (f : FE) : FE := fun ρ μ => bd (f ρ μ) fun x μ1 => match x with
  | .d (.v (.int i)) => some (.ok (wi (Builtin.Int.intBits i : Nat)) μ1)
  | _ => none
/-! ### C.f, an int of a class -/
structure CInt (K : PySem.W.Frag) (C : Addr) (f : Str) (i : Int) : Prop where
  rd : ClX.CRead K C (.type "type")
  va : ∃ u, ClX.CVal K C (.type "type") f (.int i) u
def cintB (K : PySem.W.Frag) (C : Addr) (f : Str) (i : Int) : Bool := PySem.W.readsIn K C (.type "type") && match PySem.W.findCls K (.ref C) (.type "type") f with
  | some (.val (.int j _)) => decide (j = i)
  | _ => false
theorem cint_ok {K : PySem.W.Frag} {C : Addr} {f : Str} {i : Int} (h : cintB K C f i = true) : CInt K C f i := by
  unfold cintB at h
  rw [Bool.and_eq_true] at h
  refine ⟨cread_ok h.1, ?_⟩
  have h2 := h.2
  split at h2
  · rename_i j t e
    have := decide_eq_true_eq.mp h2
    subst this
    exact ⟨_, ⟨e, ⟨t, rfl⟩⟩⟩
  · cases h2
theorem b_cint {C : Addr} {x f : Str} {i : Int} {np pos : Pos} (c : CInt K C f i) (hg : Gl X x) (hm : X.mg x = some (.ref C)) (hK : K = X.K := by rfl) (h1 : (x == ("__debug__" : Str)) = false := by decide)
    (hb : attributeBase (.Name x np) f X.env (eval (.Name x np) X.env) = eval (.Name x np) X.env := by rfl) : BE X Wx (.Attribute (.Name x np) f pos) (ClX.tCVal K (tC (.ref C)) f) (dC (.int i)) := by
  subst hK
  obtain ⟨u, cv⟩ := c.va
  refine ⟨ClX.pe_cval (pe_glob hg hm rfl h1) hb, fun {w σ ρ μ P R} ok st q {Q} qn qx => ?_⟩
  exact ⟨C, .type "type", .int i, u, rfl, c.rd, cv, qn.now ok .imm q⟩
end
end FR

set_option Elab.async false
set_option linter.all false
set_option maxRecDepth 100000
set_option maxHeartbeats 4000000
namespace FRL
open PySem L2 Evl DL FR
noncomputable section
def B_fold : FSt := (fSeq (fIf (fTest (fOp (oI0 fun i j => .bl (decide (i < j))) (fOp oMul (fC (.int 2)) (fVar 0)) (fVar 1))) (fRet (fOp oMul (fC (.int 2)) (fVar 0))) fNext) (fRet (fOp oSub (fOp oMul (fC (.int 2)) (fOp oSub (fVar 1) (fVar 0))) (fC (.int 1)))))
def F_fold : Fn := (fRun 2 2 false (B_fold))
def B_unfold : FSt := (fSeq (fIf (fTest (fOp oEq (fOp oMod (fVar 0) (fC (.int 2))) (fC (.int 0)))) (fRet (fOp oDiv (fVar 0) (fC (.int 2)))) fNext) (fRet (fOp oSub (fVar 1) (fOp oDiv (fOp (oAdd false) (fVar 0) (fC (.int 1))) (fC (.int 2))))))
def F_unfold : Fn := (fRun 2 2 false (B_unfold))
def B_L_drawer_4 : FSt := (fRet (fLst true (fCons (fC (.int 0)) (fCons (fVar 3) (fCons (fC (.int 0)) fNil)))))
def B_L_drawer_3 : FSt := (fSeq (fIf (fTest (fOp (oI0 fun i j => .bl (decide (j ≤ i))) (fVar 2) (fOp oPow (fC (.int 10)) (fC (.int 18))))) (fRet (fLst true (fCons (fOp oSub (fVar 2) (fOp oPow (fC (.int 10)) (fC (.int 18)))) (fCons (fVar 3) (fCons (fC (.int 0)) fNil))))) fNext) B_L_drawer_4)
def B_L_drawer_2 : FSt := (fSeq (fAsg (fOp oMod (fCB cInt (fCons (fOp (oAdd false) (fOp (oAdd false) (fVar 2) (fOp oMul (fC (.int 1013)) (fVar 1))) (fC (.int 7))) fNil)) (fC (.int 2147483629))) (gNm 3)) B_L_drawer_3)
def B_L_drawer_1 : FSt := (fSeq (fIf (fTest (fOp (oI0 fun i j => .bl (decide (i < j))) (fVar 1) (fCB cLen (fCons (fVar 0) fNil)))) (fAsg (fCB cAbs (fCons (fOp oIx (fVar 0) (fVar 1)) fNil)) (gNm 2)) fNext) B_L_drawer_2)
def B_L_drawer : FSt := (fSeq (fAsg (fC (.int 0)) (gNm 2)) B_L_drawer_1)
def F_L_drawer : Fn := (fRun 2 4 true (B_L_drawer))
def B_L_draw_4 : FSt := (fRet (fOp oMod (fCB cInt (fCons (fOp oDiv (fVar 4) (fC (.int 11))) fNil)) (fVar 1)))
def B_L_draw_3 : FSt := (fSeq (fAsg (fOp oMod (fCB cInt (fCons (fOp (oAdd false) (fOp oMul (fVar 3) (fOp (oAdd false) (fOp oDiv (fVar 3) (fC (.int 3))) (fC (.int 40014)))) (fOp oMul (fOp oIx (fVar 0) (fC (.int 2))) (fC (.int 7919)))) fNil)) (fC (.int 2147483563))) (gNm 4)) B_L_draw_4)
def B_L_draw_2 : FSt := (fSeq (fAsg (fOp oMod (fCB cInt (fCons (fOp (oAdd false) (fOp (oAdd false) (fOp oMul (fOp oIx (fVar 0) (fC (.int 1))) (fC (.int 48271))) (fOp oMul (fOp oIx (fVar 0) (fC (.int 2))) (fC (.int 69621)))) (fC (.int 12345))) fNil)) (fC (.int 2147483647))) (gNm 3)) B_L_draw_3)
def B_L_draw_1 : FSt := (fSeq (fSet (fVar 0) (fC (.int 2)) (fOp (oAdd false) (fOp oIx (fVar 0) (fC (.int 2))) (fC (.int 1)))) B_L_draw_2)
def B_L_draw : FSt := (fSeq (fIf (fTest (fOp (oI0 fun i j => .bl (decide (j < i))) (fOp oIx (fVar 0) (fC (.int 0))) (fC (.int 1)))) (fSeq (fAsg (fOp oMod (fCB cInt (fCons (fOp oIx (fVar 0) (fC (.int 0))) fNil)) (fVar 1)) (gNm 2)) (fSeq (fSet (fVar 0) (fC (.int 0)) (fOp oDiv (fOp oIx (fVar 0) (fC (.int 0))) (fVar 1))) (fRet (fVar 2)))) fNext) B_L_draw_1)
def F_L_draw : Fn := (fRun 2 5 false (B_L_draw))
def B_L_pick : FSt := (fRet (fOp oIx (fVar 1) (fDef [true, false] FRL.F_L_draw [] (fCons (fVar 0) (fCons (fCB cLen (fCons (fVar 1) fNil)) fNil)))))
def F_L_pick : Fn := (fRun 2 2 false (B_L_pick))
def B_L_modulus : FSt := (fSeq (fIf (fTest (fOp oEq (fDef [true, false] FRL.F_L_draw [] (fCons (fVar 0) (fCons (fC (.int 4)) fNil))) (fC (.int 0)))) (fRet (fOp (oAdd false) (fC (.int 1)) (fDef [true, false] FRL.F_L_draw [] (fCons (fVar 0) (fCons (fC (.int 65536)) fNil))))) fNext) (fRet (fDef [true, false] FRL.F_L_pick [] (fCons (fVar 0) (fCons (fLst false (fCons (fC (.int 1)) (fCons (fC (.int 2)) (fCons (fC (.int 2)) (fCons (fC (.int 3)) (fCons (fC (.int 4)) (fCons (fC (.int 4)) (fCons (fC (.int 5)) (fCons (fC (.int 6)) (fCons (fC (.int 8)) (fCons (fC (.int 9)) (fCons (fC (.int 12)) (fCons (fC (.int 16)) (fCons (fC (.int 256)) (fCons (fC (.int 65535)) (fCons (fC (.int 65536)) fNil)))))))))))))))) fNil)))))
def F_L_modulus : Fn := (fRun 1 1 false (B_L_modulus))
def B_L_int : FSt := (fRet (fAndV (fCB cIsi (fCons (fVar 0) (fCons (fC (.ty "int")) fNil))) (fNotV (fCB cIsi (fCons (fVar 0) (fCons (fC (.ty "bool")) fNil))))))
def F_L_int : Fn := (fRun 1 1 false (B_L_int))
def B_grid_steps : FSt := (fSeq (fAsg (fSl false (fVar 0) (fPart (fVar 1)) fNoPart) (gNm 2)) (fRet (fTup (fCons (fOp oShl (fC (.int 1)) (fSCount (fVar 2) (fC (.str "a")))) (fCons (fOp oShl (fC (.int 1)) (fSCount (fVar 2) (fC (.str "d")))) fNil)))))
def F_grid_steps : Fn := (fRun 2 3 false (B_grid_steps))
def B_Sheet_init_3 (K : PySem.W.Frag) : FSt := (fFldS (He.ga K "Sheet") "height" (fVar 0) (fCB cLen (fCons (fFld (He.ga K "Sheet") "rows" (fVar 0)) fNil)))
def B_Sheet_init_2 (K : PySem.W.Frag) : FSt := (fSeq (fFldS (He.ga K "Sheet") "width" (fVar 0) (fIfE (fTru (fFld (He.ga K "Sheet") "rows" (fVar 0))) (fCB cLen (fCons (fOp oIx (fFld (He.ga K "Sheet") "rows" (fVar 0)) (fC (.int 0))) fNil)) (fC (.int 0)))) (B_Sheet_init_3 K))
def B_Sheet_init_1 (K : PySem.W.Frag) : FSt := (fSeq (fFldS (He.ga K "Sheet") "rows" (fVar 0) (fCB cTuple (fCons (fLc false (iFix (fVar 2)) (gNm 3) fYes (fCB cTuple (fCons (fVar 3) fNil)) [3]) fNil))) (B_Sheet_init_2 K))
def B_Sheet_init (K : PySem.W.Frag) : FSt := (fSeq (fFldS (He.ga K "Sheet") "modulus" (fVar 0) (fVar 1)) (B_Sheet_init_1 K))
def F_Sheet_init (K : PySem.W.Frag) : Fn := (fRun 3 4 false (B_Sheet_init K))
def B_Sheet_eq (K : PySem.W.Frag) : FSt := (fRet (fAndV (fCB (cIsiC (He.ga K "Sheet") [("tuple", false)] [(He.ga K "Sheet", true)]) (fCons (fVar 1) (fCons (fC (.ref (He.ga K "Sheet"))) fNil))) (fAndV (fOp oEq (fFld (He.ga K "Sheet") "modulus" (fVar 0)) (fFld (He.ga K "Sheet") "modulus" (fVar 1))) (fOp oEqD (fFld (He.ga K "Sheet") "rows" (fVar 0)) (fFld (He.ga K "Sheet") "rows" (fVar 1))))))
def F_Sheet_eq (K : PySem.W.Frag) : Fn := (fRun 2 2 false (B_Sheet_eq K))
def B_L_rows_5 : FSt := (fFrz 7 (fRet (fCB cTuple (fCons (fVar 7) fNil))))
def B_L_rows_4 : FSt := (fSeq (fFor (iR1 (fCons (fVar 3) fNil)) (gNm 8) (fSeq (fAsg (fLst true fNil) (gNm 9)) (fSeq (fFor (iR1 (fCons (fVar 2) fNil)) (gNm 10) (fSeq (fAsg (fVar 5) (gNm 11)) (fSeq (fIf (fTest (fOp oEq (fVar 4) (fC (.int 1)))) (fAsg (fOp oIx (fLst false (fCons (fVar 5) (fCons (fVar 6) fNil))) (fDef [true, false] FRL.F_L_draw [] (fCons (fVar 0) (fCons (fC (.int 2)) fNil)))) (gNm 11)) fNext) (fSeq (fIf (fTest (fOp oEq (fVar 4) (fC (.int 2)))) (fAsg (fOp oMod (fCB cInt (fCons (fOp (oAdd false) (fOp oMul (fVar 5) (fVar 10)) (fOp oMul (fVar 6) (fVar 8))) fNil)) (fVar 1)) (gNm 11)) fNext) (fSeq (fIf (fTest (fOp (oI0 fun i j => .bl (decide (j < i))) (fVar 4) (fC (.int 2)))) (fAsg (fDef [true, false] FRL.F_L_draw [] (fCons (fVar 0) (fCons (fVar 1) fNil))) (gNm 11)) fNext) (fApp (fVar 9) (fVar 11)))))) [10, 11]) (fFrz 9 (fApp (fVar 7) (fCB cTuple (fCons (fVar 9) fNil)))))) [8, 9, 10, 11]) B_L_rows_5)
def B_L_rows_3 : FSt := (fSeq (fAsg (fLst true fNil) (gNm 7)) B_L_rows_4)
def B_L_rows_2 : FSt := (fSeq (fAsg (fDef [true, false] FRL.F_L_draw [] (fCons (fVar 0) (fCons (fVar 1) fNil))) (gNm 6)) B_L_rows_3)
def B_L_rows_1 : FSt := (fSeq (fAsg (fDef [true, false] FRL.F_L_draw [] (fCons (fVar 0) (fCons (fVar 1) fNil))) (gNm 5)) B_L_rows_2)
def B_L_rows : FSt := (fSeq (fAsg (fDef [true, false] FRL.F_L_draw [] (fCons (fVar 0) (fCons (fC (.int 5)) fNil))) (gNm 4)) B_L_rows_1)
def F_L_rows : Fn := (fRun 4 12 false (B_L_rows))
def B_L_letters : FSt := (fSeq (fAsg (fC (.str "")) (gNm 2)) (fSeq (fFor (iR1 (fCons (fDef [true, false] FRL.F_L_draw [] (fCons (fVar 0) (fCons (fOp (oAdd false) (fVar 1) (fC (.int 1))) fNil))) fNil)) (gNm 3) (fAsg (fOp (oAdd false) (fVar 2) (fDef [true, false] FRL.F_L_pick [] (fCons (fVar 0) (fCons (fC (.str "ad")) fNil)))) (gNm 2)) [3]) (fRet (fVar 2))))
def F_L_letters : Fn := (fRun 2 4 false (B_L_letters))
def B_L_steps_3 : FSt := (fRet (fTup (fCons (fVar 2) (fCons (fVar 3) fNil))))
def B_L_steps_2 : FSt := (fSeq (fFor (iSigns (fSl false (fVar 0) (fPart (fVar 1)) fNoPart)) (gNm 4) (fIf (fTest (fOp oEq (fVar 4) (fC (.str "a")))) (fAsg (fOp oMul (fVar 2) (fC (.int 2))) (gNm 2)) (fAsg (fOp oMul (fVar 3) (fC (.int 2))) (gNm 3))) [4]) B_L_steps_3)
def B_L_steps_1 : FSt := (fSeq (fAsg (fC (.int 1)) (gNm 3)) B_L_steps_2)
def B_L_steps : FSt := (fSeq (fAsg (fC (.int 1)) (gNm 2)) B_L_steps_1)
def F_L_steps : Fn := (fRun 2 5 false (B_L_steps))
def F_L_same : Nat → Fn
  | 0 => fun _ _ => none
  | n + 1 => (fRun 2 3 false (fSeq (fIf (fTest (fOp oIsN (fVar 1) (fC .non))) (fRet (fOp oIsN (fVar 0) (fC .non))) fNext) (fSeq (fIf (fTest (fOp oIsB (fVar 1) (fC (.bl true)))) (fRet (fOp oIsB (fVar 0) (fC (.bl true)))) fNext) (fSeq (fIf (fTest (fOp oIsB (fVar 1) (fC (.bl false)))) (fRet (fOp oIsB (fVar 0) (fC (.bl false)))) fNext) (fSeq (fIf (fTest (fCB cIsi (fCons (fVar 1) (fCons (fC (.ty "int")) fNil)))) (fRet (fAndV (fDef [false] FRL.F_L_int [] (fCons (fVar 0) fNil)) (fOp oEqD (fVar 0) (fVar 1)))) fNext) (fSeq (fIf (fTest (fCB cIsi (fCons (fVar 1) (fCons (fC (.ty "str")) fNil)))) (fRet (fAndV (fCB cIsi (fCons (fVar 0) (fCons (fC (.ty "str")) fNil))) (fOp oEqD (fVar 0) (fVar 1)))) fNext) (fSeq (fIf (fTest (fCB cIsi (fCons (fVar 1) (fCons (fC (.ty "tuple")) fNil)))) (fIf (fNot (fTest (fCB cIsi (fCons (fVar 0) (fCons (fC (.ty "tuple")) fNil))))) (fRet (fC (.bl false))) fNext) (fIf (fNot (fTest (fCB cIsi (fCons (fVar 0) (fCons (fC (.ty "list")) fNil))))) (fRet (fC (.bl false))) fNext)) (fSeq (fIf (fTest (fOp oNe (fCB cLen (fCons (fVar 0) fNil)) (fCB cLen (fCons (fVar 1) fNil)))) (fRet (fC (.bl false))) fNext) (fSeq (fFor (iR1 (fCons (fCB cLen (fCons (fVar 1) fNil)) fNil)) (gNm 2) (fIf (fNot (fTest (fDef [false, false] (F_L_same n) [] (fCons (fOp oIx (fVar 0) (fVar 2)) (fCons (fOp oIx (fVar 1) (fVar 2)) fNil))))) (fRet (fC (.bl false))) fNext) [2]) (fRet (fC (.bl true))))))))))))
end
local macro_rules | `(tactic| walk_at "ev") => `(tactic| simp (disch := omega) only [iET, fCon, fStar, oShr, cNn_r, cMax2, fExt, cAll, cAny, cLB, cSum, cLI, iRevR1, fRun, fin_nx, fin_rt, fin_xc, fin_none, fin_ite, cMul_l, cMul_r, cDiv_r, cPos_r, cPow_r, Nat.not_lt_zero,  fSeq, fIf, fAsg, fAug, oRep, oRepT, fRet, fRetN, fNext, fVar, fC, fOp, fUn, fTest, fAnd, fOr, fNot, fAndV, fOrV, fNotV, fIfE, fNil, fCons, fTup, fLst, fCB, fDef, fDrop, fSet, fApp, fTru, fChain, asB, cLen, cInt, cAbs, cMin2, cIsi, oI, oI0, oMul, oDiv, oMod, oPow, oSub, oEq, oNe, oIx, oAdd, oIsN, oIsB, oNotN, isN, o1U,
  bd_ok, bd_ex, bd_none, bd_ite, sb_nx, sb_rt, sb_bk, sb_ct, sb_xc, sb_none, sb_ite, eb_ok, eb_ex, eb_none, eb_ite, startW, fSl, fPart, fNoPart, fNew, fFld, fFldS, fFldA, fDefK, fSCount, cBool, iSigns, cIsiC, oEqO, mins, insOf, fMet, isO, fGet, fOwn, onlyO, fNeg, fOwnI, oRefl, oShl, cTuple, cList, lookup_lkS, lkS, Nat.reduceEqDiff, Nat.zero_ne_one, Nat.one_ne_zero, str_inj, String.reduceEq, List.isEmpty_nil, List.isEmpty_cons, putD, fRaise0, fRaiseO, fTryAs, fTryOnly, catch_nx, catch_rt, catch_bk, catch_ct, catch_xc, catch_none, catch_ite, allv_some, gone_nx, gone_rt, gone_bk, gone_ct, gone_ite, calm_nx, calm_rt, calm_bk, calm_ct, calm_ite, fXa, cIsX, truW, truth, eq_self, fFor, fFrz, frzW, turn, lt_nx, lt_ct, lt_bk, lt_rt, lt_xc, lt_none, lt_ite, lc, cutL, wipeW, inCutB, cutL, lcTurn, fLc, fYes, iFix, iFixL, iFixT, iR1, iR2, iR3, fixOf, fCallW, passI, passWs, passW, idx, noBb, backW, merge, List.getD_cons_zero, List.getD_cons_succ, Int.cast_ofNat_Int, Int.natCast_one, Int.natCast_zero, List.nodup_cons, List.nodup_nil, List.all_cons, List.all_nil, List.not_mem_nil, not_false_eq_true, and_true, true_and, List.mem_cons, or_false, false_or, gNm, gNl, gCs, gTp, Nat.not_lt_zero, rtW, newL, at_0, at_1, at_2, at_3, at_4, at_5, at_6, at_7, ixN_1_0, ixN_2_0, ixN_2_1, ixN_3_0, ixN_3_1, ixN_3_2, ixN_4_0, ixN_4_1, ixN_4_2, ixN_4_3, ixN_5_0, ixN_5_1, ixN_5_2, ixN_5_3, ixN_5_4, alls, allb, seqOf, lstOf, mlist, scal, tyN, tyW, kt_int_int, kt_int_bool, kt_int_str, kt_int_tuple, kt_int_list, kt_bool_int, kt_bool_bool, kt_bool_str, kt_bool_tuple, kt_bool_list, kt_str_int, kt_str_bool, kt_str_str, kt_str_tuple, kt_str_list, kt_tuple_int, kt_tuple_bool, kt_tuple_str, kt_tuple_tuple, kt_tuple_list, kt_list_int, kt_list_bool, kt_list_str, kt_list_tuple, kt_list_list, kt_NoneType_int, kt_NoneType_bool, kt_NoneType_str, kt_NoneType_tuple, kt_NoneType_list, item, dws,
  List.length_cons, List.length_nil, List.map_cons, List.map_nil, List.cons_append, List.nil_append, List.append_nil, List.getElem?_nil, List.getElem?_cons_zero, List.getElem?_cons_succ, List.set_cons_zero, List.set_cons_succ, List.replicate, Option.map_some, Nat.sub_self, Nat.reduceSub, Nat.reduceAdd, Nat.reduceLT, Nat.reduceLeDiff, decide_true, decide_false, if_true, if_false, ite_true, ite_false, Bool.false_eq_true, Bool.not_true, Bool.not_false, Bool.and_true, Bool.true_and, Bool.and_false, Bool.false_and, Bool.or_true, Bool.true_or, Bool.or_false, Bool.false_or, decide_eq_true_eq, Nat.zero_le, Nat.le_refl, Nat.lt_irrefl, List.take_succ_cons, List.take_zero, List.take_nil, V.int.injEq, V.bl.injEq, V.str.injEq, reduceCtorEq, smallB_le, r62_le, rgB_le, fLstR1, fLstR2, cSortI, isLst, rints_len, Int.toNat_natCast, beq_self_eq_true, Option.some.injEq])
local macro_rules | `(tactic| simp? [$ls,*]) => `(tactic| simp (maxSteps := 2000000) (disch := first | omega | assumption | (simp only [List.length_cons, List.length_nil, List.length_map]; omega)) only [iET, fCon, fStar, oShr, cNn_r, cMax2, fExt, cAll, cAny, cLB, cSum, cLI, iRevR1, fRun, fin_nx, fin_rt, fin_xc, fin_none, fin_ite, cMul_l, cMul_r, cDiv_r, cPos_r, cPow_r, Nat.not_lt_zero,  fSeq, fIf, fAsg, fAug, oRep, oRepT, fRet, fRetN, fNext, fVar, fC, fOp, fUn, fTest, fAnd, fOr, fNot, fAndV, fOrV, fNotV, fIfE, fNil, fCons, fTup, fLst, fCB, fDef, fDrop, fSet, fApp, fTru, fChain, asB, cLen, cInt, cAbs, cMin2, cIsi, oI, oI0, oMul, oDiv, oMod, oPow, oSub, oEq, oNe, oIx, oAdd, oIsN, oIsB, oNotN, isN, o1U,
  bd_ok, bd_ex, bd_none, bd_ite, sb_nx, sb_rt, sb_bk, sb_ct, sb_xc, sb_none, sb_ite, eb_ok, eb_ex, eb_none, eb_ite, startW, fSl, fPart, fNoPart, fNew, fFld, fFldS, fFldA, fDefK, fSCount, cBool, iSigns, cIsiC, oEqO, mins, insOf, fMet, isO, fGet, fOwn, onlyO, fNeg, fOwnI, oRefl, oShl, cTuple, cList, lookup_lkS, lkS, Nat.reduceEqDiff, Nat.zero_ne_one, Nat.one_ne_zero, str_inj, String.reduceEq, List.isEmpty_nil, List.isEmpty_cons, putD, fRaise0, fRaiseO, fTryAs, fTryOnly, catch_nx, catch_rt, catch_bk, catch_ct, catch_xc, catch_none, catch_ite, allv_some, gone_nx, gone_rt, gone_bk, gone_ct, gone_ite, calm_nx, calm_rt, calm_bk, calm_ct, calm_ite, fXa, cIsX, truW, truth, eq_self, fFor, fFrz, frzW, turn, lt_nx, lt_ct, lt_bk, lt_rt, lt_xc, lt_none, lt_ite, lc, cutL, wipeW, inCutB, cutL, lcTurn, fLc, fYes, iFix, iFixL, iFixT, iR1, iR2, iR3, fixOf, fCallW, passI, passWs, passW, idx, noBb, backW, merge, List.getD_cons_zero, List.getD_cons_succ, Int.cast_ofNat_Int, Int.natCast_one, Int.natCast_zero, List.nodup_cons, List.nodup_nil, List.all_cons, List.all_nil, List.not_mem_nil, not_false_eq_true, and_true, true_and, List.mem_cons, or_false, false_or, gNm, gNl, gCs, gTp, Nat.not_lt_zero, rtW, newL, at_0, at_1, at_2, at_3, at_4, at_5, at_6, at_7, ixN_1_0, ixN_2_0, ixN_2_1, ixN_3_0, ixN_3_1, ixN_3_2, ixN_4_0, ixN_4_1, ixN_4_2, ixN_4_3, ixN_5_0, ixN_5_1, ixN_5_2, ixN_5_3, ixN_5_4, alls, allb, seqOf, lstOf, mlist, scal, tyN, tyW, kt_int_int, kt_int_bool, kt_int_str, kt_int_tuple, kt_int_list, kt_bool_int, kt_bool_bool, kt_bool_str, kt_bool_tuple, kt_bool_list, kt_str_int, kt_str_bool, kt_str_str, kt_str_tuple, kt_str_list, kt_tuple_int, kt_tuple_bool, kt_tuple_str, kt_tuple_tuple, kt_tuple_list, kt_list_int, kt_list_bool, kt_list_str, kt_list_tuple, kt_list_list, kt_NoneType_int, kt_NoneType_bool, kt_NoneType_str, kt_NoneType_tuple, kt_NoneType_list, item, dws,
  List.length_cons, List.length_nil, List.map_cons, List.map_nil, List.cons_append, List.nil_append, List.append_nil, List.getElem?_nil, List.getElem?_cons_zero, List.getElem?_cons_succ, List.set_cons_zero, List.set_cons_succ, List.replicate, Option.map_some, Nat.sub_self, Nat.reduceSub, Nat.reduceAdd, Nat.reduceLT, Nat.reduceLeDiff, decide_true, decide_false, if_true, if_false, ite_true, ite_false, Bool.false_eq_true, Bool.not_true, Bool.not_false, Bool.and_true, Bool.true_and, Bool.and_false, Bool.false_and, Bool.or_true, Bool.true_or, Bool.or_false, Bool.false_or, decide_eq_true_eq, Nat.zero_le, Nat.le_refl, Nat.lt_irrefl, List.take_succ_cons, List.take_zero, List.take_nil, V.int.injEq, V.bl.injEq, V.str.injEq, reduceCtorEq, smallB_le, r62_le, rgB_le, fLstR1, fLstR2, cSortI, isLst, rints_len, Int.toNat_natCast, beq_self_eq_true, Option.some.injEq, $ls,*])
theorem F_L_int_i {i : Int} : F_L_int [wi i] [] = some (.ok (wb true) []) := by
  unfold F_L_int B_L_int
  walk_at "ev"
def foldV (r m : Int) : Int := if 2 * r < m then 2 * r else 2 * (m - r) - 1
def unfoldV (k m : Int) : Int := if k % 2 = 0 then k / 2 else m - (k + 1) / 2
theorem F_L_draw_eq {s : DS} {m : Int} (h1 : 1 ≤ m) (h2 : m < 18446744073709551616) : F_L_draw [.m 0, wi m] [.lst s.l] = some (.ok (wi (drawV s m)) [.lst (drawS s m).l]) := by
  unfold F_L_draw B_L_draw B_L_draw_1 B_L_draw_2 B_L_draw_3 B_L_draw_4 DS.l
  walk_at "ev"
  unfold drawV drawS
  by_cases c : 1 < s.a
  · rw [if_pos c, if_pos c, if_pos c]
  · rw [if_neg c, if_neg c, if_neg c]
    rfl
theorem pow18 : (10 : Int) ^ Int.toNat 18 = 10 ^ 18 := rfl
theorem F_L_drawer_eq {ns : List Int} {k : Int} (h0 : 0 ≤ k) : F_L_drawer [.d (.scr (ns.map D.int)), wi k] [] = some (.ok (.m 0) [.lst (drawerOf ns k).l]) := by
  have hp : cPow 10 18 = true := by decide
  unfold F_L_drawer B_L_drawer B_L_drawer_1 B_L_drawer_2 B_L_drawer_3 B_L_drawer_4 drawerOf
  walk_at "ev"
  rw [List.length_map]
  by_cases c : k < (ns.length : Int)
  · rw [if_pos c, if_pos c]
    have e : ns[k.toNat]? = some ns[k.toNat] := List.getElem?_eq_getElem (by omega)
    have ea : atI (ns.map D.int) k = some (.int ns[k.toNat]) := at_nat h0 (by rw [List.getElem?_map, e]; rfl)
    rw [ea, e]
    generalize ns[k.toNat] = z
    have ez : (if z < 0 then -z else z) = (z.natAbs : Int) := by split <;> omega
    simp only [Option.getD_some]
    walk_at "ev"
    rw [ez, pow18]
    unfold drawer0
    by_cases c2 : (10 : Int) ^ 18 ≤ (z.natAbs : Int)
    · simp only [c2, if_true]
      rfl
    · simp only [c2, if_true, if_false]
      rfl
  · rw [if_neg c, if_neg c, pow18]
    rfl
theorem call_draw {s : DS} {m : Int} {k : Nat} {μ : Mu} (h1 : 1 ≤ m) (h2 : m < 18446744073709551616) (hk : μ[k]? = some (.lst s.l)) : fCallW [true, false] F_L_draw [.m k, wi m] μ = some (.ok (wi (drawV s m)) (μ.set k (.lst (drawS s m).l))) := by
  have hl : k < μ.length := (List.getElem?_eq_some_iff.mp hk).1
  have hg : μ.getD k .dead = .lst s.l := by rw [List.getD_eq_getElem?_getD, hk]; rfl
  unfold fCallW
  simp only [passI, List.not_mem_nil, if_false, passWs, passW, idx, if_true, List.map_cons, List.map_nil, hg, F_L_draw_eq h1 h2]
  simp [hl, noBb, backW, merge]
def pickV (s : DS) (cs : List D) : D := cs.getD (drawV s cs.length).toNat .non
theorem pickV_at {s : DS} {cs : List D} (h : 1 ≤ cs.length) : atI cs (drawV s cs.length) = some (pickV s cs) := by
  obtain ⟨a0, a1⟩ := drawV_lt (s := s) (m := cs.length) (by omega)
  have hl : (drawV s cs.length).toNat < cs.length := by omega
  refine at_nat a0 ?_
  unfold pickV
  rw [List.getD_eq_getElem?_getD, List.getElem?_eq_getElem hl]
  rfl
theorem F_L_pick_eq {s : DS} {cs : List D} (h1 : 1 ≤ cs.length) (h2 : cs.length < 1000) : F_L_pick [.m 0, .d (.lst cs)] [.lst s.l] = some (.ok (.d (pickV s cs)) [.lst (drawS s cs.length).l]) := by
  unfold F_L_pick B_L_pick
  (repeat (first | walk_at "ev" | simp (disch := first | omega | assumption | (simp only [List.length_cons, List.length_nil, List.length_map]; omega)) only [F_L_draw_eq, pickV_at]))
def modL : List Int := [1, 2, 2, 3, 4, 4, 5, 6, 8, 9, 12, 16, 256, 65535, 65536]
def modV (s : DS) : Int := if drawV s 4 = 0 then 1 + drawV (drawS s 4) 65536 else modL.getD (drawV (drawS s 4) 15).toNat 0
def modS (s : DS) : DS := if drawV s 4 = 0 then drawS (drawS s 4) 65536 else drawS (drawS s 4) 15
theorem modV_in {s : DS} : 1 ≤ modV s ∧ modV s ≤ 65536 := by
  unfold modV
  split
  · obtain ⟨a, b⟩ := drawV_lt (s := drawS s 4) (m := 65536) (by decide)
    omega
  · obtain ⟨a, b⟩ := drawV_lt (s := drawS s 4) (m := 15) (by decide)
    have key : ∀ i : Nat, i < 15 → 1 ≤ modL.getD i 0 ∧ modL.getD i 0 ≤ 65536 := by decide
    exact key _ (by omega)
theorem pickI {s : DS} {l : List Int} (h : 1 ≤ l.length) : pickV s (l.map D.int) = .int (l.getD (drawV s l.length).toNat 0) := by
  obtain ⟨a0, a1⟩ := drawV_lt (s := s) (m := l.length) (by omega)
  unfold pickV
  rw [List.length_map, List.getD_eq_getElem?_getD, List.getD_eq_getElem?_getD, List.getElem?_map, List.getElem?_eq_getElem (by omega)]
  rfl
theorem F_L_modulus_eq {s : DS} : F_L_modulus [.m 0] [.lst s.l] = some (.ok (wi (modV s)) [.lst (modS s).l]) := by
  unfold F_L_modulus B_L_modulus
  (repeat (first | walk_at "ev" | simp (disch := first | omega | assumption | (simp only [List.length_cons, List.length_nil, List.length_map]; omega)) only [F_L_draw_eq, F_L_pick_eq]))
  have e : pickV (drawS s 4) [D.v (V.int 1), D.v (V.int 2), D.v (V.int 2), D.v (V.int 3), D.v (V.int 4), D.v (V.int 4), D.v (V.int 5), D.v (V.int 6), D.v (V.int 8), D.v (V.int 9), D.v (V.int 12), D.v (V.int 16), D.v (V.int 256), D.v (V.int 65535), D.v (V.int 65536)] = .int (modL.getD (drawV (drawS s 4) 15).toNat 0) := pickI (l := modL) (by decide)
  rw [show pickV (drawS s 4) _ = _ from e, modV, modS]
  by_cases c : drawV s 4 = 0
  · simp only [c, if_true]
  · simp only [c, if_false]
theorem passI_f {ms : List Bool} {x : W} {xs : List W} : passI (false :: ms) (x :: xs) = passI ms xs := rfl
theorem passW_item {μ : Mu} {is : List Nat} {l : Bool} {d : D} : passW μ is (item l d) = some (item l d) := by
  cases l
  · rfl
  · cases d <;> rfl
theorem oIx_seq {μ : Mu} {x : W} {ds : List D} {l : Bool} {i : Int} {d : D} (h : seqOf μ x = some (ds, l)) (e : atI ds i = some d) : oIx x (wi i) μ = some (.ok (item l d) μ) := by
  unfold oIx
  simp only [h, e]
theorem seqOf_d {μ : Mu} {d : D} {ds : List D} {l : Bool} (h : d = .tup ds ∨ d = .lst ds) : seqOf μ (item l d) = some (ds, l) := by
  rcases h with rfl | rfl <;> cases l <;> rfl
theorem same_turn {n : Nat} {l l' : Bool} {x y : W} {ds : List D} (hx : seqOf [] x = some (ds, l)) (hy : seqOf [] y = some (ds, l')) (ih : ∀ d ∈ ds, F_L_same n [item l d, item l' d] [] = some (.ok (wb true) [])) {z : W} (hz : z ∈ rints 0 ds.length) (k : Rho → Mu → Option So) :
    turn (gNm 2) (fIf (fNot (fTest (fDef [false, false] (F_L_same n) [] (fCons (fOp oIx (fVar 0) (fVar 2)) (fCons (fOp oIx (fVar 1) (fVar 2)) fNil))))) (fRet (fC (.bl false))) fNext) [2] 0 z [some x, some y, none] [] k = k [some x, some y, none] [] := by
  obtain ⟨i, hi, rfl⟩ := rints_mem hz
  rw [Int.zero_add]
  have e : atI ds (i : Int) = some ds[i] := at_get (List.getElem?_eq_getElem hi)
  have h1 := oIx_seq hx e
  have h2 := oIx_seq hy e
  have h3 := ih ds[i] (List.getElem_mem hi)
  simp only [turn, gNm, List.set_cons_succ, List.set_cons_zero, fIf, fNot, fTest, fDef, fCons, fNil, fOp, fVar, List.getElem?_cons_zero, List.getElem?_cons_succ, bd_ok, h1, h2, fCallW, dws, List.map_nil, List.append_nil, List.cons_append, List.nil_append, passI_f, passWs, passW_item]
  simp only [passI, List.map_nil, h3, List.nodup_nil, decide_true, List.all_nil, Bool.and_true, if_true, List.length_nil, Nat.zero_le, noBb, backW, merge, List.append_nil, bd_ok, eb_ok, Bool.not_true, Bool.false_eq_true, if_false, fNext, lt_nx, lc, cutL, wipeW, List.set_cons_succ, List.set_cons_zero, List.take_zero]
  have c : inCutB 0 [some x, some y, none] = true := by
    cases x with
    | m k => simp [seqOf] at hx
    | d x =>
      cases y with
      | m k => simp [seqOf] at hy
      | d _ => rfl
      | b _ => rfl
    | b x =>
      cases y with
      | m k => simp [seqOf] at hy
      | d _ => rfl
      | b _ => rfl
  simp only [c, Bool.and_self, if_true, List.set_nil, List.length_nil]
theorem same_eq : ∀ {n : Nat} {a : D}, pl n a → ∀ l l', F_L_same (n + 1) [item l a, item l' a] [] = some (.ok (wb true) [])
  | n, .v v, h, l, l' => by
    rw [item_v, item_v]
    cases v with
    | non => unfold F_L_same; walk_at "ev"
    | bl b => cases b <;> (unfold F_L_same; walk_at "ev")
    | int i => unfold F_L_same; (repeat (first | walk_at "ev" | simp (disch := first | omega | assumption | (simp only [List.length_cons, List.length_nil, List.length_map]; omega)) only [F_L_int_i, oEqD_pn (n := 0) (m := 0) (a := D.int i) (b := D.int i) pn_int pn_int (by omega) (by omega), eqB_self]))
    | str s =>
      have hp : pn 0 (.v (.str s)) := by cases n <;> simpa [pl, pn] using h
      unfold F_L_same; (repeat (first | walk_at "ev" | simp (disch := first | omega | assumption | (simp only [List.length_cons, List.length_nil, List.length_map]; omega)) only [oEqD_pn hp hp (by omega) (by omega), eqB_self]))
    | byt _ => cases n <;> simp [pl] at h
    | flt _ => cases n <;> simp [pl] at h
    | ref _ => cases n <;> simp [pl] at h
    | ty _ => cases n <;> simp [pl] at h
  | 0, .tup _, h, _, _ => by simp [pl] at h
  | 0, .lst _, h, _, _ => by simp [pl] at h
  | n + 1, .tup ds, h, l, l' => by
    obtain ⟨hl, hd⟩ : ds.length ≤ 1000000 ∧ ∀ d ∈ ds, pl n d := by simpa only [pl] using h
    have T := fun z hz k => @same_turn (n + 1) l l' (item l (.tup ds)) (item l' (.tup ds)) ds (seqOf_d (.inl rfl)) (seqOf_d (.inl rfl)) (fun d hdm => same_eq (hd d hdm) l l') z hz k
    unfold F_L_same
    cases l <;> cases l' <;> (simp only [item, lend, if_true, Bool.false_eq_true, if_false]; walk_at "ev"; rw [loop_same]; focus walk_at "ev") <;> exact T
  | n + 1, .lst ds, h, l, l' => by
    obtain ⟨hl, hd⟩ : ds.length ≤ 1000000 ∧ ∀ d ∈ ds, pl n d := by simpa only [pl] using h
    have T := fun z hz k => @same_turn (n + 1) l l' (item l (.lst ds)) (item l' (.lst ds)) ds (seqOf_d (.inr rfl)) (seqOf_d (.inr rfl)) (fun d hdm => same_eq (hd d hdm) l l') z hz k
    unfold F_L_same
    cases l <;> cases l' <;> (simp only [item, lend, if_true, Bool.false_eq_true, if_false]; walk_at "ev"; rw [loop_same]; focus walk_at "ev") <;> exact T
  | n, .scr _, h, _, _ => by cases n <;> simp [pl] at h
  | n, .obj _ _, h, _, _ => by cases n <;> simp [pl] at h
  | n, .dT _, h, _, _ => by cases n <;> simp [pl] at h
  | n, .dK _, h, _, _ => by cases n <;> simp [pl] at h
  | n, .xc _ _ _, h, _, _ => by cases n <;> simp [pl] at h
/-! ### sheets -/
def rowsD (rs : List (List Int)) : D := .tup (rs.map fun r => .tup (r.map D.int))
def shF (m : Int) (rs : List (List Int)) (w h : Int) : List (Str × D) := [("modulus", .int m), ("rows", rowsD rs), ("width", .int w), ("height", .int h)]
def shD (C : Addr) (m : Int) (rs : List (List Int)) (w h : Int) : D := .obj C (shF m rs w h)
def sqD (l : Bool) (xs : List D) : D := if l then .lst xs else .tup xs
def rwD (o i : Bool) (rs : List (List Int)) : D := sqD o (rs.map fun r => sqD i (r.map D.int))
def wdR (rs : List (List Int)) : Int := match rs with
  | [] => 0
  | r :: _ => (r.length : Int)
abbrev shOf (C : Addr) (m : Int) (rs : List (List Int)) : D := shD C m rs (wdR rs) (rs.length : Int)
def tupOf : W → D
  | .d (.tup xs) => .tup xs
  | .d (.lst xs) => .tup xs
  | _ => .v .non
end FRL

set_option Elab.async false
set_option linter.all false
set_option maxRecDepth 100000
set_option maxHeartbeats 4000000
namespace FRL
open PySem L2 Evl DL FR
local macro_rules | `(tactic| walk_at "ev") => `(tactic| simp (disch := omega) only [iET, fCon, fStar, oShr, cNn_r, cMax2, fExt, cAll, cAny, cLB, cSum, cLI, iRevR1, fRun, fin_nx, fin_rt, fin_xc, fin_none, fin_ite, cMul_l, cMul_r, cDiv_r, cPos_r, cPow_r, Nat.not_lt_zero,  fSeq, fIf, fAsg, fAug, oRep, oRepT, fRet, fRetN, fNext, fVar, fC, fOp, fUn, fTest, fAnd, fOr, fNot, fAndV, fOrV, fNotV, fIfE, fNil, fCons, fTup, fLst, fCB, fDef, fDrop, fSet, fApp, fTru, fChain, asB, cLen, cInt, cAbs, cMin2, cIsi, oI, oI0, oMul, oDiv, oMod, oPow, oSub, oEq, oNe, oIx, oAdd, oIsN, oIsB, oNotN, isN, o1U,
  bd_ok, bd_ex, bd_none, bd_ite, sb_nx, sb_rt, sb_bk, sb_ct, sb_xc, sb_none, sb_ite, eb_ok, eb_ex, eb_none, eb_ite, startW, fSl, fPart, fNoPart, fNew, fFld, fFldS, fFldA, fDefK, fSCount, cBool, iSigns, cIsiC, oEqO, mins, insOf, fMet, isO, fGet, fOwn, onlyO, fNeg, fOwnI, oRefl, oShl, cTuple, cList, lookup_lkS, lkS, Nat.reduceEqDiff, Nat.zero_ne_one, Nat.one_ne_zero, str_inj, String.reduceEq, List.isEmpty_nil, List.isEmpty_cons, putD, fRaise0, fRaiseO, fTryAs, fTryOnly, catch_nx, catch_rt, catch_bk, catch_ct, catch_xc, catch_none, catch_ite, allv_some, gone_nx, gone_rt, gone_bk, gone_ct, gone_ite, calm_nx, calm_rt, calm_bk, calm_ct, calm_ite, fXa, cIsX, truW, truth, eq_self, fFor, fFrz, frzW, turn, lt_nx, lt_ct, lt_bk, lt_rt, lt_xc, lt_none, lt_ite, lc, cutL, wipeW, inCutB, cutL, lcTurn, fLc, fYes, iFix, iFixL, iFixT, iR1, iR2, iR3, fixOf, fCallW, passI, passWs, passW, idx, noBb, backW, merge, List.getD_cons_zero, List.getD_cons_succ, Int.cast_ofNat_Int, Int.natCast_one, Int.natCast_zero, List.nodup_cons, List.nodup_nil, List.all_cons, List.all_nil, List.not_mem_nil, not_false_eq_true, and_true, true_and, List.mem_cons, or_false, false_or, gNm, gNl, gCs, gTp, Nat.not_lt_zero, rtW, newL, at_0, at_1, at_2, at_3, at_4, at_5, at_6, at_7, ixN_1_0, ixN_2_0, ixN_2_1, ixN_3_0, ixN_3_1, ixN_3_2, ixN_4_0, ixN_4_1, ixN_4_2, ixN_4_3, ixN_5_0, ixN_5_1, ixN_5_2, ixN_5_3, ixN_5_4, alls, allb, seqOf, lstOf, mlist, scal, tyN, tyW, kt_int_int, kt_int_bool, kt_int_str, kt_int_tuple, kt_int_list, kt_bool_int, kt_bool_bool, kt_bool_str, kt_bool_tuple, kt_bool_list, kt_str_int, kt_str_bool, kt_str_str, kt_str_tuple, kt_str_list, kt_tuple_int, kt_tuple_bool, kt_tuple_str, kt_tuple_tuple, kt_tuple_list, kt_list_int, kt_list_bool, kt_list_str, kt_list_tuple, kt_list_list, kt_NoneType_int, kt_NoneType_bool, kt_NoneType_str, kt_NoneType_tuple, kt_NoneType_list, item, dws,
  List.length_cons, List.length_nil, List.map_cons, List.map_nil, List.cons_append, List.nil_append, List.append_nil, List.getElem?_nil, List.getElem?_cons_zero, List.getElem?_cons_succ, List.set_cons_zero, List.set_cons_succ, List.replicate, Option.map_some, Nat.sub_self, Nat.reduceSub, Nat.reduceAdd, Nat.reduceLT, Nat.reduceLeDiff, decide_true, decide_false, if_true, if_false, ite_true, ite_false, Bool.false_eq_true, Bool.not_true, Bool.not_false, Bool.and_true, Bool.true_and, Bool.and_false, Bool.false_and, Bool.or_true, Bool.true_or, Bool.or_false, Bool.false_or, decide_eq_true_eq, Nat.zero_le, Nat.le_refl, Nat.lt_irrefl, List.take_succ_cons, List.take_zero, List.take_nil, V.int.injEq, V.bl.injEq, V.str.injEq, reduceCtorEq, smallB_le, r62_le, rgB_le, fLstR1, fLstR2, cSortI, isLst, rints_len, Int.toNat_natCast, beq_self_eq_true, Option.some.injEq])
local macro_rules | `(tactic| simp? [$ls,*]) => `(tactic| simp (maxSteps := 2000000) (disch := first | omega | assumption | (simp only [List.length_cons, List.length_nil, List.length_map]; omega)) only [iET, fCon, fStar, oShr, cNn_r, cMax2, fExt, cAll, cAny, cLB, cSum, cLI, iRevR1, fRun, fin_nx, fin_rt, fin_xc, fin_none, fin_ite, cMul_l, cMul_r, cDiv_r, cPos_r, cPow_r, Nat.not_lt_zero,  fSeq, fIf, fAsg, fAug, oRep, oRepT, fRet, fRetN, fNext, fVar, fC, fOp, fUn, fTest, fAnd, fOr, fNot, fAndV, fOrV, fNotV, fIfE, fNil, fCons, fTup, fLst, fCB, fDef, fDrop, fSet, fApp, fTru, fChain, asB, cLen, cInt, cAbs, cMin2, cIsi, oI, oI0, oMul, oDiv, oMod, oPow, oSub, oEq, oNe, oIx, oAdd, oIsN, oIsB, oNotN, isN, o1U,
  bd_ok, bd_ex, bd_none, bd_ite, sb_nx, sb_rt, sb_bk, sb_ct, sb_xc, sb_none, sb_ite, eb_ok, eb_ex, eb_none, eb_ite, startW, fSl, fPart, fNoPart, fNew, fFld, fFldS, fFldA, fDefK, fSCount, cBool, iSigns, cIsiC, oEqO, mins, insOf, fMet, isO, fGet, fOwn, onlyO, fNeg, fOwnI, oRefl, oShl, cTuple, cList, lookup_lkS, lkS, Nat.reduceEqDiff, Nat.zero_ne_one, Nat.one_ne_zero, str_inj, String.reduceEq, List.isEmpty_nil, List.isEmpty_cons, putD, fRaise0, fRaiseO, fTryAs, fTryOnly, catch_nx, catch_rt, catch_bk, catch_ct, catch_xc, catch_none, catch_ite, allv_some, gone_nx, gone_rt, gone_bk, gone_ct, gone_ite, calm_nx, calm_rt, calm_bk, calm_ct, calm_ite, fXa, cIsX, truW, truth, eq_self, fFor, fFrz, frzW, turn, lt_nx, lt_ct, lt_bk, lt_rt, lt_xc, lt_none, lt_ite, lc, cutL, wipeW, inCutB, cutL, lcTurn, fLc, fYes, iFix, iFixL, iFixT, iR1, iR2, iR3, fixOf, fCallW, passI, passWs, passW, idx, noBb, backW, merge, List.getD_cons_zero, List.getD_cons_succ, Int.cast_ofNat_Int, Int.natCast_one, Int.natCast_zero, List.nodup_cons, List.nodup_nil, List.all_cons, List.all_nil, List.not_mem_nil, not_false_eq_true, and_true, true_and, List.mem_cons, or_false, false_or, gNm, gNl, gCs, gTp, Nat.not_lt_zero, rtW, newL, at_0, at_1, at_2, at_3, at_4, at_5, at_6, at_7, ixN_1_0, ixN_2_0, ixN_2_1, ixN_3_0, ixN_3_1, ixN_3_2, ixN_4_0, ixN_4_1, ixN_4_2, ixN_4_3, ixN_5_0, ixN_5_1, ixN_5_2, ixN_5_3, ixN_5_4, alls, allb, seqOf, lstOf, mlist, scal, tyN, tyW, kt_int_int, kt_int_bool, kt_int_str, kt_int_tuple, kt_int_list, kt_bool_int, kt_bool_bool, kt_bool_str, kt_bool_tuple, kt_bool_list, kt_str_int, kt_str_bool, kt_str_str, kt_str_tuple, kt_str_list, kt_tuple_int, kt_tuple_bool, kt_tuple_str, kt_tuple_tuple, kt_tuple_list, kt_list_int, kt_list_bool, kt_list_str, kt_list_tuple, kt_list_list, kt_NoneType_int, kt_NoneType_bool, kt_NoneType_str, kt_NoneType_tuple, kt_NoneType_list, item, dws,
  List.length_cons, List.length_nil, List.map_cons, List.map_nil, List.cons_append, List.nil_append, List.append_nil, List.getElem?_nil, List.getElem?_cons_zero, List.getElem?_cons_succ, List.set_cons_zero, List.set_cons_succ, List.replicate, Option.map_some, Nat.sub_self, Nat.reduceSub, Nat.reduceAdd, Nat.reduceLT, Nat.reduceLeDiff, decide_true, decide_false, if_true, if_false, ite_true, ite_false, Bool.false_eq_true, Bool.not_true, Bool.not_false, Bool.and_true, Bool.true_and, Bool.and_false, Bool.false_and, Bool.or_true, Bool.true_or, Bool.or_false, Bool.false_or, decide_eq_true_eq, Nat.zero_le, Nat.le_refl, Nat.lt_irrefl, List.take_succ_cons, List.take_zero, List.take_nil, V.int.injEq, V.bl.injEq, V.str.injEq, reduceCtorEq, smallB_le, r62_le, rgB_le, fLstR1, fLstR2, cSortI, isLst, rints_len, Int.toNat_natCast, beq_self_eq_true, Option.some.injEq, $ls,*])
/-! ### drawn rows -/
def rowT (mn one two m : Int) (y : Nat) (q : DS × List Int) (x : Nat) : DS × List Int :=
  if mn = 1 then (drawS q.1 2, q.2 ++ [if drawV q.1 2 = 0 then one else two]) else if mn = 2 then (q.1, q.2 ++ [(one * (x : Int) + two * (y : Int)) % m]) else if 2 < mn then (drawS q.1 m, q.2 ++ [drawV q.1 m]) else (q.1, q.2 ++ [one])
def rowF (mn one two m w : Int) (y : Nat) (s : DS) : DS × List Int := (List.range w.toNat).foldl (rowT mn one two m y) (s, [])
def rowsT (mn one two m w : Int) (q : DS × List (List Int)) (y : Nat) : DS × List (List Int) := ((rowF mn one two m w y q.1).1, q.2 ++ [(rowF mn one two m w y q.1).2])
def rowsF (mn one two m w h : Int) (s : DS) : DS × List (List Int) := (List.range h.toNat).foldl (rowsT mn one two m w) (s, [])
def rowsP (s : DS) (m w h : Int) : DS × List (List Int) := rowsF (drawV s 5) (drawV (drawS s 5) m) (drawV (drawS (drawS s 5) m) m) m w h (drawS (drawS (drawS s 5) m) m)
theorem foldR {σ : Type} {f : σ → Nat → σ} {s : σ} {i : Nat} : (List.range (i + 1)).foldl f s = f ((List.range i).foldl f s) i := by
  rw [List.range_succ, List.foldl_append]
  rfl
/-- rows that make a sheet of a width and a height -/
structure Rows (m : Int) (w h : Nat) (rs : List (List Int)) : Prop where
  hh : rs.length = h
  hw : ∀ r ∈ rs, r.length = w
  hv : ∀ r ∈ rs, ∀ v ∈ r, 0 ≤ v ∧ v < m
end FRL

set_option Elab.async false
set_option linter.all false
set_option maxRecDepth 100000
set_option maxHeartbeats 4000000
namespace FRL
open PySem L2 Evl DL FR
local macro_rules | `(tactic| walk_at "ev") => `(tactic| simp (disch := omega) only [iET, fCon, fStar, oShr, cNn_r, cMax2, fExt, cAll, cAny, cLB, cSum, cLI, iRevR1, fRun, fin_nx, fin_rt, fin_xc, fin_none, fin_ite, cMul_l, cMul_r, cDiv_r, cPos_r, cPow_r, Nat.not_lt_zero,  fSeq, fIf, fAsg, fAug, oRep, oRepT, fRet, fRetN, fNext, fVar, fC, fOp, fUn, fTest, fAnd, fOr, fNot, fAndV, fOrV, fNotV, fIfE, fNil, fCons, fTup, fLst, fCB, fDef, fDrop, fSet, fApp, fTru, fChain, asB, cLen, cInt, cAbs, cMin2, cIsi, oI, oI0, oMul, oDiv, oMod, oPow, oSub, oEq, oNe, oIx, oAdd, oIsN, oIsB, oNotN, isN, o1U,
  bd_ok, bd_ex, bd_none, bd_ite, sb_nx, sb_rt, sb_bk, sb_ct, sb_xc, sb_none, sb_ite, eb_ok, eb_ex, eb_none, eb_ite, startW, fSl, fPart, fNoPart, fNew, fFld, fFldS, fFldA, fDefK, fSCount, cBool, iSigns, cIsiC, oEqO, mins, insOf, fMet, isO, fGet, fOwn, onlyO, fNeg, fOwnI, oRefl, oShl, cTuple, cList, lookup_lkS, lkS, Nat.reduceEqDiff, Nat.zero_ne_one, Nat.one_ne_zero, str_inj, String.reduceEq, List.isEmpty_nil, List.isEmpty_cons, putD, fRaise0, fRaiseO, fTryAs, fTryOnly, catch_nx, catch_rt, catch_bk, catch_ct, catch_xc, catch_none, catch_ite, allv_some, gone_nx, gone_rt, gone_bk, gone_ct, gone_ite, calm_nx, calm_rt, calm_bk, calm_ct, calm_ite, fXa, cIsX, truW, truth, eq_self, fFor, fFrz, frzW, turn, lt_nx, lt_ct, lt_bk, lt_rt, lt_xc, lt_none, lt_ite, lc, cutL, wipeW, inCutB, cutL, lcTurn, fLc, fYes, iFix, iFixL, iFixT, iR1, iR2, iR3, fixOf, fCallW, passI, passWs, passW, idx, noBb, backW, merge, List.getD_cons_zero, List.getD_cons_succ, Int.cast_ofNat_Int, Int.natCast_one, Int.natCast_zero, List.nodup_cons, List.nodup_nil, List.all_cons, List.all_nil, List.not_mem_nil, not_false_eq_true, and_true, true_and, List.mem_cons, or_false, false_or, gNm, gNl, gCs, gTp, Nat.not_lt_zero, rtW, newL, at_0, at_1, at_2, at_3, at_4, at_5, at_6, at_7, ixN_1_0, ixN_2_0, ixN_2_1, ixN_3_0, ixN_3_1, ixN_3_2, ixN_4_0, ixN_4_1, ixN_4_2, ixN_4_3, ixN_5_0, ixN_5_1, ixN_5_2, ixN_5_3, ixN_5_4, alls, allb, seqOf, lstOf, mlist, scal, tyN, tyW, kt_int_int, kt_int_bool, kt_int_str, kt_int_tuple, kt_int_list, kt_bool_int, kt_bool_bool, kt_bool_str, kt_bool_tuple, kt_bool_list, kt_str_int, kt_str_bool, kt_str_str, kt_str_tuple, kt_str_list, kt_tuple_int, kt_tuple_bool, kt_tuple_str, kt_tuple_tuple, kt_tuple_list, kt_list_int, kt_list_bool, kt_list_str, kt_list_tuple, kt_list_list, kt_NoneType_int, kt_NoneType_bool, kt_NoneType_str, kt_NoneType_tuple, kt_NoneType_list, item, dws,
  List.length_cons, List.length_nil, List.map_cons, List.map_nil, List.cons_append, List.nil_append, List.append_nil, List.getElem?_nil, List.getElem?_cons_zero, List.getElem?_cons_succ, List.set_cons_zero, List.set_cons_succ, List.replicate, Option.map_some, Nat.sub_self, Nat.reduceSub, Nat.reduceAdd, Nat.reduceLT, Nat.reduceLeDiff, decide_true, decide_false, if_true, if_false, ite_true, ite_false, Bool.false_eq_true, Bool.not_true, Bool.not_false, Bool.and_true, Bool.true_and, Bool.and_false, Bool.false_and, Bool.or_true, Bool.true_or, Bool.or_false, Bool.false_or, decide_eq_true_eq, Nat.zero_le, Nat.le_refl, Nat.lt_irrefl, List.take_succ_cons, List.take_zero, List.take_nil, V.int.injEq, V.bl.injEq, V.str.injEq, reduceCtorEq, smallB_le, r62_le, rgB_le, fLstR1, fLstR2, cSortI, isLst, rints_len, Int.toNat_natCast, beq_self_eq_true, Option.some.injEq])
local macro_rules | `(tactic| simp? [$ls,*]) => `(tactic| simp (maxSteps := 2000000) (disch := first | omega | assumption | (simp only [List.length_cons, List.length_nil, List.length_map]; omega)) only [iET, fCon, fStar, oShr, cNn_r, cMax2, fExt, cAll, cAny, cLB, cSum, cLI, iRevR1, fRun, fin_nx, fin_rt, fin_xc, fin_none, fin_ite, cMul_l, cMul_r, cDiv_r, cPos_r, cPow_r, Nat.not_lt_zero,  fSeq, fIf, fAsg, fAug, oRep, oRepT, fRet, fRetN, fNext, fVar, fC, fOp, fUn, fTest, fAnd, fOr, fNot, fAndV, fOrV, fNotV, fIfE, fNil, fCons, fTup, fLst, fCB, fDef, fDrop, fSet, fApp, fTru, fChain, asB, cLen, cInt, cAbs, cMin2, cIsi, oI, oI0, oMul, oDiv, oMod, oPow, oSub, oEq, oNe, oIx, oAdd, oIsN, oIsB, oNotN, isN, o1U,
  bd_ok, bd_ex, bd_none, bd_ite, sb_nx, sb_rt, sb_bk, sb_ct, sb_xc, sb_none, sb_ite, eb_ok, eb_ex, eb_none, eb_ite, startW, fSl, fPart, fNoPart, fNew, fFld, fFldS, fFldA, fDefK, fSCount, cBool, iSigns, cIsiC, oEqO, mins, insOf, fMet, isO, fGet, fOwn, onlyO, fNeg, fOwnI, oRefl, oShl, cTuple, cList, lookup_lkS, lkS, Nat.reduceEqDiff, Nat.zero_ne_one, Nat.one_ne_zero, str_inj, String.reduceEq, List.isEmpty_nil, List.isEmpty_cons, putD, fRaise0, fRaiseO, fTryAs, fTryOnly, catch_nx, catch_rt, catch_bk, catch_ct, catch_xc, catch_none, catch_ite, allv_some, gone_nx, gone_rt, gone_bk, gone_ct, gone_ite, calm_nx, calm_rt, calm_bk, calm_ct, calm_ite, fXa, cIsX, truW, truth, eq_self, fFor, fFrz, frzW, turn, lt_nx, lt_ct, lt_bk, lt_rt, lt_xc, lt_none, lt_ite, lc, cutL, wipeW, inCutB, cutL, lcTurn, fLc, fYes, iFix, iFixL, iFixT, iR1, iR2, iR3, fixOf, fCallW, passI, passWs, passW, idx, noBb, backW, merge, List.getD_cons_zero, List.getD_cons_succ, Int.cast_ofNat_Int, Int.natCast_one, Int.natCast_zero, List.nodup_cons, List.nodup_nil, List.all_cons, List.all_nil, List.not_mem_nil, not_false_eq_true, and_true, true_and, List.mem_cons, or_false, false_or, gNm, gNl, gCs, gTp, Nat.not_lt_zero, rtW, newL, at_0, at_1, at_2, at_3, at_4, at_5, at_6, at_7, ixN_1_0, ixN_2_0, ixN_2_1, ixN_3_0, ixN_3_1, ixN_3_2, ixN_4_0, ixN_4_1, ixN_4_2, ixN_4_3, ixN_5_0, ixN_5_1, ixN_5_2, ixN_5_3, ixN_5_4, alls, allb, seqOf, lstOf, mlist, scal, tyN, tyW, kt_int_int, kt_int_bool, kt_int_str, kt_int_tuple, kt_int_list, kt_bool_int, kt_bool_bool, kt_bool_str, kt_bool_tuple, kt_bool_list, kt_str_int, kt_str_bool, kt_str_str, kt_str_tuple, kt_str_list, kt_tuple_int, kt_tuple_bool, kt_tuple_str, kt_tuple_tuple, kt_tuple_list, kt_list_int, kt_list_bool, kt_list_str, kt_list_tuple, kt_list_list, kt_NoneType_int, kt_NoneType_bool, kt_NoneType_str, kt_NoneType_tuple, kt_NoneType_list, item, dws,
  List.length_cons, List.length_nil, List.map_cons, List.map_nil, List.cons_append, List.nil_append, List.append_nil, List.getElem?_nil, List.getElem?_cons_zero, List.getElem?_cons_succ, List.set_cons_zero, List.set_cons_succ, List.replicate, Option.map_some, Nat.sub_self, Nat.reduceSub, Nat.reduceAdd, Nat.reduceLT, Nat.reduceLeDiff, decide_true, decide_false, if_true, if_false, ite_true, ite_false, Bool.false_eq_true, Bool.not_true, Bool.not_false, Bool.and_true, Bool.true_and, Bool.and_false, Bool.false_and, Bool.or_true, Bool.true_or, Bool.or_false, Bool.false_or, decide_eq_true_eq, Nat.zero_le, Nat.le_refl, Nat.lt_irrefl, List.take_succ_cons, List.take_zero, List.take_nil, V.int.injEq, V.bl.injEq, V.str.injEq, reduceCtorEq, smallB_le, r62_le, rgB_le, fLstR1, fLstR2, cSortI, isLst, rints_len, Int.toNat_natCast, beq_self_eq_true, Option.some.injEq, $ls,*])
/-! ### letters -/
def sOf (l : List Nat) : Str := ⟨l.toArray⟩
theorem sOf_len {l : List Nat} : (sOf l).length = l.length := by
  show l.toArray.size = _
  simp
theorem sOf_nil : Str.ofString "" = sOf [] := by decide +kernel
def letV (s : DS) : Nat := if drawV s 2 = 0 then 97 else 100
def letT (q : DS × List Nat) (_ : Nat) : DS × List Nat := (drawS q.1 2, q.2 ++ [letV q.1])
def letP (s : DS) (n : Nat) : DS × List Nat := (List.range n).foldl letT (s, [])
def lettersP (s : DS) (lim : Int) : DS × List Nat := letP (drawS s (lim + 1)) (drawV s (lim + 1)).toNat
/-! ### steps -/
def acr (l : List Nat) : Int := 2 ^ l.count 97
def dwn (l : List Nat) : Int := 2 ^ l.count 100
def isAD (l : List Nat) : Prop := ∀ c ∈ l, c = 97 ∨ c = 100
def allW : Nat → List (List Nat)
  | 0 => [[]]
  | n + 1 => (allW n).flatMap fun l => [97 :: l, 100 :: l]
end FRL

set_option Elab.async false
set_option linter.all false
set_option maxRecDepth 100000
set_option maxHeartbeats 4000000
namespace FRL
open PySem L2 Evl DL FR
noncomputable section
def B_double : FSt := (fSeq (fIf (fTest (fOp (oI0 fun i j => .bl (decide (i < j))) (fOp oMul (fC (.int 2)) (fVar 0)) (fC (.int 128)))) (fRet (fOp oMul (fC (.int 2)) (fVar 0))) fNext) (fRet (fOp (oI0 fun i j => .int (xorI i j)) (fOp oSub (fOp oMul (fC (.int 2)) (fVar 0)) (fC (.int 128))) (fC (.int 3)))))
def F_double : Fn := (fRun 1 1 false (B_double))
def B_closing_4 : FSt := (fRet (fTup (fCons (fVar 2) (fCons (fVar 3) (fCons (fVar 4) fNil)))))
def B_closing_3 : FSt := (fSeq (fFor (iFix (fTup (fCons (fVar 0) (fStar (fVar 1) (fCons (fVar 2) fNil))))) (gNm 5) (fSeq (fAsg (fOp (oI0 fun i j => .int (xorI i j)) (fVar 3) (fVar 5)) (gNm 3)) (fAsg (fOp (oI0 fun i j => .int (xorI i j)) (fDef [false] FRL.F_double [] (fCons (fVar 4) fNil)) (fVar 5)) (gNm 4))) [5]) B_closing_4)
def B_closing_2 : FSt := (fSeq (fAsg (fC (.int 0)) (gNm 4)) B_closing_3)
def B_closing_1 : FSt := (fSeq (fAsg (fC (.int 0)) (gNm 3)) B_closing_2)
def B_closing : FSt := (fSeq (fAsg (fOp oMod (fCB cLen (fCons (fVar 1) fNil)) (fC (.int 128))) (gNm 2)) B_closing_1)
def F_closing : Fn := (fRun 2 6 false (B_closing))
end
local macro_rules | `(tactic| walk_at "ev") => `(tactic| simp (disch := omega) only [iET, fCon, fStar, oShr, cNn_r, cMax2, fExt, cAll, cAny, cLB, cSum, cLI, iRevR1, fRun, fin_nx, fin_rt, fin_xc, fin_none, fin_ite, cMul_l, cMul_r, cDiv_r, cPos_r, cPow_r, Nat.not_lt_zero,  fSeq, fIf, fAsg, fAug, oRep, oRepT, fRet, fRetN, fNext, fVar, fC, fOp, fUn, fTest, fAnd, fOr, fNot, fAndV, fOrV, fNotV, fIfE, fNil, fCons, fTup, fLst, fCB, fDef, fDrop, fSet, fApp, fTru, fChain, asB, cLen, cInt, cAbs, cMin2, cIsi, oI, oI0, oMul, oDiv, oMod, oPow, oSub, oEq, oNe, oIx, oAdd, oIsN, oIsB, oNotN, isN, o1U,
  bd_ok, bd_ex, bd_none, bd_ite, sb_nx, sb_rt, sb_bk, sb_ct, sb_xc, sb_none, sb_ite, eb_ok, eb_ex, eb_none, eb_ite, startW, fSl, fPart, fNoPart, fNew, fFld, fFldS, fFldA, fDefK, fSCount, cBool, iSigns, cIsiC, oEqO, mins, insOf, fMet, isO, fGet, fOwn, onlyO, fNeg, fOwnI, oRefl, oShl, cTuple, cList, lookup_lkS, lkS, Nat.reduceEqDiff, Nat.zero_ne_one, Nat.one_ne_zero, str_inj, String.reduceEq, List.isEmpty_nil, List.isEmpty_cons, putD, fRaise0, fRaiseO, fTryAs, fTryOnly, catch_nx, catch_rt, catch_bk, catch_ct, catch_xc, catch_none, catch_ite, allv_some, gone_nx, gone_rt, gone_bk, gone_ct, gone_ite, calm_nx, calm_rt, calm_bk, calm_ct, calm_ite, fXa, cIsX, truW, truth, eq_self, fFor, fFrz, frzW, turn, lt_nx, lt_ct, lt_bk, lt_rt, lt_xc, lt_none, lt_ite, lc, cutL, wipeW, inCutB, cutL, lcTurn, fLc, fYes, iFix, iFixL, iFixT, iR1, iR2, iR3, fixOf, fCallW, passI, passWs, passW, idx, noBb, backW, merge, List.getD_cons_zero, List.getD_cons_succ, Int.cast_ofNat_Int, Int.natCast_one, Int.natCast_zero, List.nodup_cons, List.nodup_nil, List.all_cons, List.all_nil, List.not_mem_nil, not_false_eq_true, and_true, true_and, List.mem_cons, or_false, false_or, gNm, gNl, gCs, gTp, Nat.not_lt_zero, rtW, newL, at_0, at_1, at_2, at_3, at_4, at_5, at_6, at_7, ixN_1_0, ixN_2_0, ixN_2_1, ixN_3_0, ixN_3_1, ixN_3_2, ixN_4_0, ixN_4_1, ixN_4_2, ixN_4_3, ixN_5_0, ixN_5_1, ixN_5_2, ixN_5_3, ixN_5_4, alls, allb, seqOf, lstOf, mlist, scal, tyN, tyW, kt_int_int, kt_int_bool, kt_int_str, kt_int_tuple, kt_int_list, kt_bool_int, kt_bool_bool, kt_bool_str, kt_bool_tuple, kt_bool_list, kt_str_int, kt_str_bool, kt_str_str, kt_str_tuple, kt_str_list, kt_tuple_int, kt_tuple_bool, kt_tuple_str, kt_tuple_tuple, kt_tuple_list, kt_list_int, kt_list_bool, kt_list_str, kt_list_tuple, kt_list_list, kt_NoneType_int, kt_NoneType_bool, kt_NoneType_str, kt_NoneType_tuple, kt_NoneType_list, item, dws,
  List.length_cons, List.length_nil, List.map_cons, List.map_nil, List.cons_append, List.nil_append, List.append_nil, List.getElem?_nil, List.getElem?_cons_zero, List.getElem?_cons_succ, List.set_cons_zero, List.set_cons_succ, List.replicate, Option.map_some, Nat.sub_self, Nat.reduceSub, Nat.reduceAdd, Nat.reduceLT, Nat.reduceLeDiff, decide_true, decide_false, if_true, if_false, ite_true, ite_false, Bool.false_eq_true, Bool.not_true, Bool.not_false, Bool.and_true, Bool.true_and, Bool.and_false, Bool.false_and, Bool.or_true, Bool.true_or, Bool.or_false, Bool.false_or, decide_eq_true_eq, Nat.zero_le, Nat.le_refl, Nat.lt_irrefl, List.take_succ_cons, List.take_zero, List.take_nil, V.int.injEq, V.bl.injEq, V.str.injEq, reduceCtorEq, smallB_le, r62_le, rgB_le, fLstR1, fLstR2, cSortI, isLst, rints_len, Int.toNat_natCast, beq_self_eq_true, Option.some.injEq])
local macro_rules | `(tactic| simp? [$ls,*]) => `(tactic| simp (maxSteps := 2000000) (disch := first | omega | assumption | (simp only [List.length_cons, List.length_nil, List.length_map]; omega)) only [iET, fCon, fStar, oShr, cNn_r, cMax2, fExt, cAll, cAny, cLB, cSum, cLI, iRevR1, fRun, fin_nx, fin_rt, fin_xc, fin_none, fin_ite, cMul_l, cMul_r, cDiv_r, cPos_r, cPow_r, Nat.not_lt_zero,  fSeq, fIf, fAsg, fAug, oRep, oRepT, fRet, fRetN, fNext, fVar, fC, fOp, fUn, fTest, fAnd, fOr, fNot, fAndV, fOrV, fNotV, fIfE, fNil, fCons, fTup, fLst, fCB, fDef, fDrop, fSet, fApp, fTru, fChain, asB, cLen, cInt, cAbs, cMin2, cIsi, oI, oI0, oMul, oDiv, oMod, oPow, oSub, oEq, oNe, oIx, oAdd, oIsN, oIsB, oNotN, isN, o1U,
  bd_ok, bd_ex, bd_none, bd_ite, sb_nx, sb_rt, sb_bk, sb_ct, sb_xc, sb_none, sb_ite, eb_ok, eb_ex, eb_none, eb_ite, startW, fSl, fPart, fNoPart, fNew, fFld, fFldS, fFldA, fDefK, fSCount, cBool, iSigns, cIsiC, oEqO, mins, insOf, fMet, isO, fGet, fOwn, onlyO, fNeg, fOwnI, oRefl, oShl, cTuple, cList, lookup_lkS, lkS, Nat.reduceEqDiff, Nat.zero_ne_one, Nat.one_ne_zero, str_inj, String.reduceEq, List.isEmpty_nil, List.isEmpty_cons, putD, fRaise0, fRaiseO, fTryAs, fTryOnly, catch_nx, catch_rt, catch_bk, catch_ct, catch_xc, catch_none, catch_ite, allv_some, gone_nx, gone_rt, gone_bk, gone_ct, gone_ite, calm_nx, calm_rt, calm_bk, calm_ct, calm_ite, fXa, cIsX, truW, truth, eq_self, fFor, fFrz, frzW, turn, lt_nx, lt_ct, lt_bk, lt_rt, lt_xc, lt_none, lt_ite, lc, cutL, wipeW, inCutB, cutL, lcTurn, fLc, fYes, iFix, iFixL, iFixT, iR1, iR2, iR3, fixOf, fCallW, passI, passWs, passW, idx, noBb, backW, merge, List.getD_cons_zero, List.getD_cons_succ, Int.cast_ofNat_Int, Int.natCast_one, Int.natCast_zero, List.nodup_cons, List.nodup_nil, List.all_cons, List.all_nil, List.not_mem_nil, not_false_eq_true, and_true, true_and, List.mem_cons, or_false, false_or, gNm, gNl, gCs, gTp, Nat.not_lt_zero, rtW, newL, at_0, at_1, at_2, at_3, at_4, at_5, at_6, at_7, ixN_1_0, ixN_2_0, ixN_2_1, ixN_3_0, ixN_3_1, ixN_3_2, ixN_4_0, ixN_4_1, ixN_4_2, ixN_4_3, ixN_5_0, ixN_5_1, ixN_5_2, ixN_5_3, ixN_5_4, alls, allb, seqOf, lstOf, mlist, scal, tyN, tyW, kt_int_int, kt_int_bool, kt_int_str, kt_int_tuple, kt_int_list, kt_bool_int, kt_bool_bool, kt_bool_str, kt_bool_tuple, kt_bool_list, kt_str_int, kt_str_bool, kt_str_str, kt_str_tuple, kt_str_list, kt_tuple_int, kt_tuple_bool, kt_tuple_str, kt_tuple_tuple, kt_tuple_list, kt_list_int, kt_list_bool, kt_list_str, kt_list_tuple, kt_list_list, kt_NoneType_int, kt_NoneType_bool, kt_NoneType_str, kt_NoneType_tuple, kt_NoneType_list, item, dws,
  List.length_cons, List.length_nil, List.map_cons, List.map_nil, List.cons_append, List.nil_append, List.append_nil, List.getElem?_nil, List.getElem?_cons_zero, List.getElem?_cons_succ, List.set_cons_zero, List.set_cons_succ, List.replicate, Option.map_some, Nat.sub_self, Nat.reduceSub, Nat.reduceAdd, Nat.reduceLT, Nat.reduceLeDiff, decide_true, decide_false, if_true, if_false, ite_true, ite_false, Bool.false_eq_true, Bool.not_true, Bool.not_false, Bool.and_true, Bool.true_and, Bool.and_false, Bool.false_and, Bool.or_true, Bool.true_or, Bool.or_false, Bool.false_or, decide_eq_true_eq, Nat.zero_le, Nat.le_refl, Nat.lt_irrefl, List.take_succ_cons, List.take_zero, List.take_nil, V.int.injEq, V.bl.injEq, V.str.injEq, reduceCtorEq, smallB_le, r62_le, rgB_le, fLstR1, fLstR2, cSortI, isLst, rints_len, Int.toNat_natCast, beq_self_eq_true, Option.some.injEq, $ls,*])
/-! ### loops as folds -/
section
variable {g : FG} {b : FSt} {dead : List Nat} {n : Nat} {α β : Type}
/-- a loop that may end the def -/
def foldX {γ : Type} (f : α → β → α ⊕ γ) : List β → α → α ⊕ γ
  | [], a => .inl a
  | x :: xs, a => match f a x with
    | .inl a' => foldX f xs a'
    | .inr r => .inr r
end
theorem rints_nat {n : Nat} : rints 0 (n : Nat) = (List.range n).map fun i : Nat => wi (i : Nat) := by
  unfold rints
  refine List.map_congr_left fun i _ => ?_
  rw [Int.zero_add]
/-! ### numbers as data -/
def natD (l : List Nat) : List D := l.map fun n => D.int (n : Nat)
theorem natD_len {l : List Nat} : (natD l).length = l.length := by simp [natD]
theorem natD_items {l : List Nat} : (natD l).map (item false) = l.map fun n => wi (n : Nat) := by
  unfold natD
  rw [List.map_map]
  rfl
theorem natD_app {a b : List Nat} : natD (a ++ b) = natD a ++ natD b := by simp [natD]
theorem natD_get {l : List Nat} {i : Nat} (h : i < l.length) : atI (natD l) (i : Int) = some (D.int (l[i] : Nat)) := at_get (by unfold natD; rw [List.getElem?_map, List.getElem?_eq_getElem h]; rfl)
/-! ### the ring of the closing bytes -/
def dbl (n : Nat) : Nat := if 2 * n < 128 then 2 * n else (2 * n - 128) ^^^ 3
def totA (a : Nat) (l : List Nat) : Nat := l.foldl (fun t x => t ^^^ x) a
def trnA (a : Nat) (l : List Nat) : Nat := l.foldl (fun t x => dbl t ^^^ x) a
def sums (q : Nat × Nat) (x : Nat) : Nat × Nat := (q.1 ^^^ x, dbl q.2 ^^^ x)
/-- the three closing bytes -/
def rowN (k : Nat) (c : List Nat) : List Nat := k :: (c ++ [c.length % 128])
def closeL (k : Nat) (c : List Nat) : List Nat := [c.length % 128, totA 0 (rowN k c), trnA 0 (rowN k c)]
/-! ### more on loops -/
section
variable {g : FG} {b : FSt} {dead : List Nat} {n : Nat} {α β : Type}
/-- the walked numbers are known in each turn, so is what holds by then -/
theorem loop_range (st : α → Rho × Mu) (w : Nat → W) (f : α → Nat → α) (I : Nat → α → Prop) {m : Nat} (a : α) {ρ : Rho} {μ : Mu} (hs : (ρ, μ) = st a) (h0 : I 0 a) (h : ∀ i a, i < m → I i a → I (i + 1) (f a i) ∧ ∀ k, turn g b dead n (w i) (st a).1 (st a).2 k = k (st (f a i)).1 (st (f a i)).2) : fLoop g b dead n ((List.range m).map w) ρ μ = some (.nx (st ((List.range m).foldl f a)).1 (st ((List.range m).foldl f a)).2) := by
  have key : ∀ i, i ≤ m → I i ((List.range i).foldl f a) := by
    intro i
    induction i with
    | zero => exact fun _ => h0
    | succ i ih =>
      intro hi
      rw [foldR]
      exact (h i _ (by omega) (ih (by omega))).1
  have e := loop0 (g := g) (b := b) (dead := dead) (n := n) (xs := (List.range m).map w) (fun i => st ((List.range i).foldl f a)) hs fun i x hx k => by
    rw [List.getElem?_map] at hx
    by_cases hi : i < m
    · rw [List.getElem?_range hi] at hx
      cases hx
      rw [foldR]
      exact (h i _ hi (key i (by omega))).2 k
    · rw [List.getElem?_eq_none (by simp; omega)] at hx
      cases hx
  rw [e, List.length_map, List.length_range]
theorem range_inv {f : α → Nat → α} (I : Nat → α → Prop) {a : α} {m : Nat} (h0 : I 0 a) (h : ∀ i a, i < m → I i a → I (i + 1) (f a i)) : I m ((List.range m).foldl f a) := by
  have key : ∀ i, i ≤ m → I i ((List.range i).foldl f a) := by
    intro i
    induction i with
    | zero => exact fun _ => h0
    | succ i ih =>
      intro hi
      rw [foldR]
      exact h i _ (by omega) (ih (by omega))
  exact key m (Nat.le_refl _)
end
theorem at_last' {α : Type} {xs : List α} {a : α} : atI (xs ++ [a]) (-1) = some a := by
  have e : ((-1 : Int) + (xs ++ [a]).length).toNat = xs.length := by simp; omega
  unfold atI ixN
  rw [if_neg (by decide), if_pos (by simp; omega), e]
  simp
/-! ### the ring has 127 places -/
def itD : Nat → Nat → Nat
  | 0, n => n
  | i + 1, n => dbl (itD i n)
def chkR : Nat → Nat → Nat → Bool
  | 0, _, _ => true
  | f + 1, n, h => !(Nat.beq h n) && chkR f n (dbl h)
/-! ### slices of numbers -/
theorem sIx_neg {n d k : Nat} (h : k ≤ n) (h0 : 0 < k) : HT.sIx n d (some (-(k : Int))) = n - k := by
  unfold HT.sIx
  simp only []
  split <;> omega
theorem sIx_pos {n d k : Nat} (h : k ≤ n) : HT.sIx n d (some (k : Int)) = k := by
  rw [HT.sIx_nat]
  omega
theorem natD_cut {l : List Nat} {lo hi : Option Int} {a b : Nat} (h1 : HT.sIx l.length 0 lo = a) (h2 : HT.sIx l.length l.length hi = b) : cutD (natD l) lo hi = natD ((l.drop a).take (b - a)) := by
  unfold cutD
  rw [natD_len, h1, h2]
  unfold natD
  rw [List.map_take, List.map_drop]
theorem natD_from {l : List Nat} {i : Nat} (h : i ≤ l.length) : cutD (natD l) (some (i : Int)) none = natD (l.drop i) := by
  rw [natD_cut (sIx_pos h) (HT.sIx_none _ _), List.take_of_length_le (by rw [List.length_drop]; omega)]
theorem natD_to {l : List Nat} {i : Nat} (h : i ≤ l.length) : cutD (natD l) none (some (i : Int)) = natD (l.take i) := by
  rw [natD_cut (HT.sIx_none _ _) (sIx_pos h)]
  simp
theorem pn_nat {l : List Nat} (h : l.length ≤ 1000000) {n : Nat} : pn (n + 1) (.tup (natD l)) ∧ pn (n + 1) (.lst (natD l)) := by
  have key : (natD l).length ≤ 1000000 ∧ ∀ d ∈ natD l, pn n d := by
    refine ⟨by rw [natD_len]; exact h, fun d hd => ?_⟩
    obtain ⟨i, _, rfl⟩ := List.mem_map.mp hd
    exact pn_int
  exact ⟨by simpa only [pn] using key, by simpa only [pn] using key⟩
/-! ### comprehensions -/
section
variable {g : FG} {t : FT} {e : FE} {vs : List Nat} {ρ : Rho} {n : Nat}
theorem lcs_mapw {β : Type} (w : β → W) (f : β → D) {μ : Mu} : ∀ {xs : List β}, (∀ x ∈ xs, lcTurn g t e vs ρ n (w x) μ = some (some (f x), μ)) → fLcL g t e vs ρ n (xs.map w) μ = some (xs.map f, μ)
  | [], _ => rfl
  | x :: xs, h => by
    rw [List.map_cons, lcL_cons (h x List.mem_cons_self), lcs_mapw w f (fun y hy => h y (List.mem_cons_of_mem _ hy))]
    rfl
def drawL (m : Int) : Nat → DS → List Nat
  | 0, _ => []
  | n + 1, s => (drawV s m).toNat :: drawL m n (drawS s m)
def drawN (m : Int) : Nat → DS → DS
  | 0, s => s
  | n + 1, s => drawN m n (drawS s m)
end
theorem drawn {s : DS} {m : Int} {n : Nat} (h : m = n) (h0 : 0 < n) : ∃ k : Nat, k < n ∧ drawV s m = (k : Nat) := by
  have d := drawV_lt (s := s) (m := m) (by omega)
  exact ⟨(drawV s m).toNat, by omega, by omega⟩
end FRL

set_option Elab.async false
set_option linter.all false
set_option maxRecDepth 100000
set_option maxHeartbeats 4000000
namespace FRL
open PySem L2 Evl DL FR
noncomputable section
def B_is_sound : FSt := (fSeq (fIf (fOr (fTest (fOp (oI0 fun i j => .bl (decide (i < j))) (fCB cLen (fCons (fVar 0) fNil)) (fC (.int 4)))) (fNot (fTest (fChain (oI0 fun i j => .bl (decide (i ≤ j))) (oI0 fun i j => .bl (decide (i < j))) (fC (.int 128)) (fOp oIx (fVar 0) (fC (.int 0))) (fOp (oAdd false) (fC (.int 128)) (fCB cLen (fCons (fCon (.tup [(.v (.str "head")), (.v (.str "palette")), (.v (.str "data")), (.v (.str "spare")), (.v (.str "end"))])) fNil))))))) (fRet (fC (.bl false))) fNext) (fSeq (fIf (fNot (fTest (fCB cAll (fCons (fLc false (iFix (fSl false (fVar 0) (fPart (fC (.int 1))) fNoPart)) (gNm 1) fYes (fOp (oI0 fun i j => .bl (decide (i < j))) (fVar 1) (fC (.int 128))) [1]) fNil)))) (fRet (fC (.bl false))) fNext) (fRet (fOp oEqD (fSl false (fVar 0) (fPart (fUn (o1U fun i => .int (-i)) (fC (.int 3)))) fNoPart) (fDef [false, false] FRL.F_closing [] (fCons (fOp oSub (fOp oIx (fVar 0) (fC (.int 0))) (fC (.int 128))) (fCons (fSl false (fVar 0) (fPart (fC (.int 1))) (fPart (fUn (o1U fun i => .int (-i)) (fC (.int 3))))) fNil)))))))
def F_is_sound : Fn := (fRun 1 2 false (B_is_sound))
def B_L_double : FSt := (fSeq (fIf (fTest (fOp (oI0 fun i j => .bl (decide (i < j))) (fVar 0) (fC (.int 64)))) (fRet (fOp oMul (fC (.int 2)) (fVar 0))) fNext) (fRet (fOp (oI0 fun i j => .int (xorI i j)) (fOp oSub (fOp oMul (fC (.int 2)) (fVar 0)) (fC (.int 128))) (fC (.int 3)))))
def F_L_double : Fn := (fRun 1 1 false (B_L_double))
def B_L_chunk_4 : FSt := (fRet (fOp (oAdd false) (fOp (oAdd false) (fLst false (fCons (fOp (oAdd false) (fC (.int 128)) (fVar 0)) fNil)) (fSl false (fVar 2) (fPart (fC (.int 1))) fNoPart)) (fLst false (fCons (fVar 3) (fCons (fVar 4) fNil)))))
def B_L_chunk_3 : FSt := (fSeq (fFor (iFix (fVar 2)) (gNm 5) (fSeq (fAsg (fOp (oI0 fun i j => .int (xorI i j)) (fVar 3) (fVar 5)) (gNm 3)) (fAsg (fOp (oI0 fun i j => .int (xorI i j)) (fDef [false] FRL.F_L_double [] (fCons (fVar 4) fNil)) (fVar 5)) (gNm 4))) [5]) B_L_chunk_4)
def B_L_chunk_2 : FSt := (fSeq (fAsg (fC (.int 0)) (gNm 4)) B_L_chunk_3)
def B_L_chunk_1 : FSt := (fSeq (fAsg (fC (.int 0)) (gNm 3)) B_L_chunk_2)
def B_L_chunk : FSt := (fSeq (fAsg (fOp (oAdd false) (fOp (oAdd false) (fLst false (fCons (fVar 0) fNil)) (fCB (cList false) (fCons (fVar 1) fNil))) (fLst false (fCons (fOp oMod (fCB cInt (fCons (fCB cLen (fCons (fVar 1) fNil)) fNil)) (fC (.int 128))) fNil))) (gNm 2)) B_L_chunk_1)
def F_L_chunk : Fn := (fRun 2 6 false (B_L_chunk))
def B_L_replaced_13 : FSt := (fFrz 11 (fRet (fOp (oAdd false) (fVar 12) (fLst false (fCons (fVar 11) fNil)))))
def B_L_replaced_12 : FSt := (fSeq (fSet (fVar 11) (fVar 5) (fOp (oI0 fun i j => .int (xorI i j)) (fOp oIx (fVar 11) (fVar 5)) (fVar 8))) B_L_replaced_13)
def B_L_replaced_11 : FSt := (fSeq (fAsg (fLst false (fCons (fCB (cList false) (fCons (fVar 11) fNil)) fNil)) (gNm 12)) B_L_replaced_12)
def B_L_replaced_10 : FSt := (fSeq (fSet (fVar 11) (fVar 4) (fOp (oI0 fun i j => .int (xorI i j)) (fOp oIx (fVar 11) (fVar 4)) (fVar 6))) B_L_replaced_11)
def B_L_replaced_9 : FSt := (fSeq (fAsg (fCB (cList true) (fCons (fVar 1) fNil)) (gNm 11)) B_L_replaced_10)
def B_L_replaced_8 : FSt := (fSeq (fIf (fTest (fOp oEq (fVar 7) (fC (.int 1)))) (fSeq (fAsg (fOp oSub (fVar 5) (fVar 4)) (gNm 9)) (fSeq (fIf (fTest (fOp oEq (fVar 5) (fOp oSub (fCB cLen (fCons (fVar 1) fNil)) (fC (.int 1))))) (fAsg (fOp oSub (fVar 9) (fC (.int 2))) (gNm 9)) fNext) (fFor (iR1 (fCons (fVar 9) fNil)) (gNm 10) (fAsg (fDef [false] FRL.F_L_double [] (fCons (fVar 8) fNil)) (gNm 8)) [10]))) fNext) B_L_replaced_9)
def B_L_replaced_7 : FSt := (fSeq (fIf (fTest (fOp oEq (fVar 7) (fC (.int 0)))) (fAsg (fOp (oAdd false) (fC (.int 1)) (fDef [true, false] FRL.F_L_draw [] (fCons (fVar 0) (fCons (fC (.int 127)) fNil)))) (gNm 8)) fNext) B_L_replaced_8)
def B_L_replaced_6 : FSt := (fSeq (fAsg (fVar 6) (gNm 8)) B_L_replaced_7)
def B_L_replaced_5 : FSt := (fSeq (fAsg (fDef [true, false] FRL.F_L_draw [] (fCons (fVar 0) (fCons (fC (.int 3)) fNil))) (gNm 7)) B_L_replaced_6)
def B_L_replaced_4 : FSt := (fSeq (fAsg (fOp (oAdd false) (fC (.int 1)) (fDef [true, false] FRL.F_L_draw [] (fCons (fVar 0) (fCons (fDef [true, false] FRL.F_L_pick [] (fCons (fVar 0) (fCons (fLst false (fCons (fC (.int 7)) (fCons (fC (.int 127)) fNil))) fNil))) fNil)))) (gNm 6)) B_L_replaced_5)
def B_L_replaced_3 : FSt := (fSeq (fAsg (fCB cMax2 (fCons (fVar 2) (fCons (fVar 3) fNil))) (gNm 5)) B_L_replaced_4)
def B_L_replaced_2 : FSt := (fSeq (fAsg (fCB cMin2 (fCons (fVar 2) (fCons (fVar 3) fNil))) (gNm 4)) B_L_replaced_3)
def B_L_replaced_1 : FSt := (fSeq (fAsg (fOp oMod (fCB cInt (fCons (fOp (oAdd false) (fOp (oAdd false) (fVar 2) (fC (.int 1))) (fDef [true, false] FRL.F_L_draw [] (fCons (fVar 0) (fCons (fOp oSub (fCB cLen (fCons (fVar 1) fNil)) (fC (.int 1))) fNil)))) fNil)) (fCB cLen (fCons (fVar 1) fNil))) (gNm 3)) B_L_replaced_2)
def B_L_replaced : FSt := (fSeq (fAsg (fDef [true, false] FRL.F_L_draw [] (fCons (fVar 0) (fCons (fCB cLen (fCons (fVar 1) fNil)) fNil))) (gNm 2)) B_L_replaced_1)
def F_L_replaced : Fn := (fRun 2 13 false (B_L_replaced))
end
local macro_rules | `(tactic| walk_at "ev") => `(tactic| simp (disch := omega) only [iET, fCon, fStar, oShr, cNn_r, cMax2, fExt, cAll, cAny, cLB, cSum, cLI, iRevR1, fRun, fin_nx, fin_rt, fin_xc, fin_none, fin_ite, cMul_l, cMul_r, cDiv_r, cPos_r, cPow_r, Nat.not_lt_zero,  fSeq, fIf, fAsg, fAug, oRep, oRepT, fRet, fRetN, fNext, fVar, fC, fOp, fUn, fTest, fAnd, fOr, fNot, fAndV, fOrV, fNotV, fIfE, fNil, fCons, fTup, fLst, fCB, fDef, fDrop, fSet, fApp, fTru, fChain, asB, cLen, cInt, cAbs, cMin2, cIsi, oI, oI0, oMul, oDiv, oMod, oPow, oSub, oEq, oNe, oIx, oAdd, oIsN, oIsB, oNotN, isN, o1U,
  bd_ok, bd_ex, bd_none, bd_ite, sb_nx, sb_rt, sb_bk, sb_ct, sb_xc, sb_none, sb_ite, eb_ok, eb_ex, eb_none, eb_ite, startW, fSl, fPart, fNoPart, fNew, fFld, fFldS, fFldA, fDefK, fSCount, cBool, iSigns, cIsiC, oEqO, mins, insOf, fMet, isO, fGet, fOwn, onlyO, fNeg, fOwnI, oRefl, oShl, cTuple, cList, lookup_lkS, lkS, Nat.reduceEqDiff, Nat.zero_ne_one, Nat.one_ne_zero, str_inj, String.reduceEq, List.isEmpty_nil, List.isEmpty_cons, putD, fRaise0, fRaiseO, fTryAs, fTryOnly, catch_nx, catch_rt, catch_bk, catch_ct, catch_xc, catch_none, catch_ite, allv_some, gone_nx, gone_rt, gone_bk, gone_ct, gone_ite, calm_nx, calm_rt, calm_bk, calm_ct, calm_ite, fXa, cIsX, truW, truth, eq_self, fFor, fFrz, frzW, turn, lt_nx, lt_ct, lt_bk, lt_rt, lt_xc, lt_none, lt_ite, lc, cutL, wipeW, inCutB, cutL, lcTurn, fLc, fYes, iFix, iFixL, iFixT, iR1, iR2, iR3, fixOf, fCallW, passI, passWs, passW, idx, noBb, backW, merge, List.getD_cons_zero, List.getD_cons_succ, Int.cast_ofNat_Int, Int.natCast_one, Int.natCast_zero, List.nodup_cons, List.nodup_nil, List.all_cons, List.all_nil, List.not_mem_nil, not_false_eq_true, and_true, true_and, List.mem_cons, or_false, false_or, gNm, gNl, gCs, gTp, Nat.not_lt_zero, rtW, newL, at_0, at_1, at_2, at_3, at_4, at_5, at_6, at_7, ixN_1_0, ixN_2_0, ixN_2_1, ixN_3_0, ixN_3_1, ixN_3_2, ixN_4_0, ixN_4_1, ixN_4_2, ixN_4_3, ixN_5_0, ixN_5_1, ixN_5_2, ixN_5_3, ixN_5_4, alls, allb, seqOf, lstOf, mlist, scal, tyN, tyW, kt_int_int, kt_int_bool, kt_int_str, kt_int_tuple, kt_int_list, kt_bool_int, kt_bool_bool, kt_bool_str, kt_bool_tuple, kt_bool_list, kt_str_int, kt_str_bool, kt_str_str, kt_str_tuple, kt_str_list, kt_tuple_int, kt_tuple_bool, kt_tuple_str, kt_tuple_tuple, kt_tuple_list, kt_list_int, kt_list_bool, kt_list_str, kt_list_tuple, kt_list_list, kt_NoneType_int, kt_NoneType_bool, kt_NoneType_str, kt_NoneType_tuple, kt_NoneType_list, item, dws,
  List.length_cons, List.length_nil, List.map_cons, List.map_nil, List.cons_append, List.nil_append, List.append_nil, List.getElem?_nil, List.getElem?_cons_zero, List.getElem?_cons_succ, List.set_cons_zero, List.set_cons_succ, List.replicate, Option.map_some, Nat.sub_self, Nat.reduceSub, Nat.reduceAdd, Nat.reduceLT, Nat.reduceLeDiff, decide_true, decide_false, if_true, if_false, ite_true, ite_false, Bool.false_eq_true, Bool.not_true, Bool.not_false, Bool.and_true, Bool.true_and, Bool.and_false, Bool.false_and, Bool.or_true, Bool.true_or, Bool.or_false, Bool.false_or, decide_eq_true_eq, Nat.zero_le, Nat.le_refl, Nat.lt_irrefl, List.take_succ_cons, List.take_zero, List.take_nil, V.int.injEq, V.bl.injEq, V.str.injEq, reduceCtorEq, smallB_le, r62_le, rgB_le, fLstR1, fLstR2, cSortI, isLst, rints_len, Int.toNat_natCast, beq_self_eq_true, Option.some.injEq])
local macro_rules | `(tactic| simp? [$ls,*]) => `(tactic| simp (maxSteps := 2000000) (disch := first | omega | assumption | (simp only [List.length_cons, List.length_nil, List.length_map]; omega)) only [iET, fCon, fStar, oShr, cNn_r, cMax2, fExt, cAll, cAny, cLB, cSum, cLI, iRevR1, fRun, fin_nx, fin_rt, fin_xc, fin_none, fin_ite, cMul_l, cMul_r, cDiv_r, cPos_r, cPow_r, Nat.not_lt_zero,  fSeq, fIf, fAsg, fAug, oRep, oRepT, fRet, fRetN, fNext, fVar, fC, fOp, fUn, fTest, fAnd, fOr, fNot, fAndV, fOrV, fNotV, fIfE, fNil, fCons, fTup, fLst, fCB, fDef, fDrop, fSet, fApp, fTru, fChain, asB, cLen, cInt, cAbs, cMin2, cIsi, oI, oI0, oMul, oDiv, oMod, oPow, oSub, oEq, oNe, oIx, oAdd, oIsN, oIsB, oNotN, isN, o1U,
  bd_ok, bd_ex, bd_none, bd_ite, sb_nx, sb_rt, sb_bk, sb_ct, sb_xc, sb_none, sb_ite, eb_ok, eb_ex, eb_none, eb_ite, startW, fSl, fPart, fNoPart, fNew, fFld, fFldS, fFldA, fDefK, fSCount, cBool, iSigns, cIsiC, oEqO, mins, insOf, fMet, isO, fGet, fOwn, onlyO, fNeg, fOwnI, oRefl, oShl, cTuple, cList, lookup_lkS, lkS, Nat.reduceEqDiff, Nat.zero_ne_one, Nat.one_ne_zero, str_inj, String.reduceEq, List.isEmpty_nil, List.isEmpty_cons, putD, fRaise0, fRaiseO, fTryAs, fTryOnly, catch_nx, catch_rt, catch_bk, catch_ct, catch_xc, catch_none, catch_ite, allv_some, gone_nx, gone_rt, gone_bk, gone_ct, gone_ite, calm_nx, calm_rt, calm_bk, calm_ct, calm_ite, fXa, cIsX, truW, truth, eq_self, fFor, fFrz, frzW, turn, lt_nx, lt_ct, lt_bk, lt_rt, lt_xc, lt_none, lt_ite, lc, cutL, wipeW, inCutB, cutL, lcTurn, fLc, fYes, iFix, iFixL, iFixT, iR1, iR2, iR3, fixOf, fCallW, passI, passWs, passW, idx, noBb, backW, merge, List.getD_cons_zero, List.getD_cons_succ, Int.cast_ofNat_Int, Int.natCast_one, Int.natCast_zero, List.nodup_cons, List.nodup_nil, List.all_cons, List.all_nil, List.not_mem_nil, not_false_eq_true, and_true, true_and, List.mem_cons, or_false, false_or, gNm, gNl, gCs, gTp, Nat.not_lt_zero, rtW, newL, at_0, at_1, at_2, at_3, at_4, at_5, at_6, at_7, ixN_1_0, ixN_2_0, ixN_2_1, ixN_3_0, ixN_3_1, ixN_3_2, ixN_4_0, ixN_4_1, ixN_4_2, ixN_4_3, ixN_5_0, ixN_5_1, ixN_5_2, ixN_5_3, ixN_5_4, alls, allb, seqOf, lstOf, mlist, scal, tyN, tyW, kt_int_int, kt_int_bool, kt_int_str, kt_int_tuple, kt_int_list, kt_bool_int, kt_bool_bool, kt_bool_str, kt_bool_tuple, kt_bool_list, kt_str_int, kt_str_bool, kt_str_str, kt_str_tuple, kt_str_list, kt_tuple_int, kt_tuple_bool, kt_tuple_str, kt_tuple_tuple, kt_tuple_list, kt_list_int, kt_list_bool, kt_list_str, kt_list_tuple, kt_list_list, kt_NoneType_int, kt_NoneType_bool, kt_NoneType_str, kt_NoneType_tuple, kt_NoneType_list, item, dws,
  List.length_cons, List.length_nil, List.map_cons, List.map_nil, List.cons_append, List.nil_append, List.append_nil, List.getElem?_nil, List.getElem?_cons_zero, List.getElem?_cons_succ, List.set_cons_zero, List.set_cons_succ, List.replicate, Option.map_some, Nat.sub_self, Nat.reduceSub, Nat.reduceAdd, Nat.reduceLT, Nat.reduceLeDiff, decide_true, decide_false, if_true, if_false, ite_true, ite_false, Bool.false_eq_true, Bool.not_true, Bool.not_false, Bool.and_true, Bool.true_and, Bool.and_false, Bool.false_and, Bool.or_true, Bool.true_or, Bool.or_false, Bool.false_or, decide_eq_true_eq, Nat.zero_le, Nat.le_refl, Nat.lt_irrefl, List.take_succ_cons, List.take_zero, List.take_nil, V.int.injEq, V.bl.injEq, V.str.injEq, reduceCtorEq, smallB_le, r62_le, rgB_le, fLstR1, fLstR2, cSortI, isLst, rints_len, Int.toNat_natCast, beq_self_eq_true, Option.some.injEq, $ls,*])
/-! ### sound pieces -/
def sndB (p : List Nat) : Bool := decide (4 ≤ p.length) && (decide (128 ≤ p.getD 0 0) && decide (p.getD 0 0 < 133)) && (p.drop 1).all (fun x => decide (x < 128)) && decide (p.drop (p.length - 3) = closeL (p.getD 0 0 - 128) ((p.drop 1).take (p.length - 4)))
/-! ### chunks as the laws write them -/
def chunkN (k : Nat) (c : List Nat) : List Nat := (128 + k) :: (c ++ closeL k c)
/-! ### what a change does to a chunk -/
def up : List Nat → List Nat
  | [] => []
  | x :: r => (128 + x) :: r
def xorAt (l : List Nat) (i e : Nat) : List Nat := l.set i (l.getD i 0 ^^^ e)
/-! ### chunks that were changed -/
theorem natD_set {l : List Nat} {i x : Nat} : (natD l).set i (D.int (x : Nat)) = natD (l.set i x) := by
  unfold natD
  rw [List.map_set]
theorem natD_getD {l : List Nat} {i : Nat} (h : i < l.length) : atI (natD l) (i : Int) = some (D.int (l.getD i 0 : Nat)) := by
  rw [natD_get h, List.getD_eq_getElem?_getD, List.getElem?_eq_getElem h]
  rfl
def twoD (p q : List Nat) : D := .lst [.lst (natD p), .lst (natD q)]
end FRL


set_option Elab.async false
set_option linter.all false
set_option maxRecDepth 100000
set_option maxHeartbeats 4000000
namespace FRL
open PySem L2 Evl DL FR
noncomputable section
def B_bits_of : FSt := (fSeq (fIf (fTest (fOp oEqD (fVar 1) (fC (.int 0)))) (fRet (fC (.str ""))) fNext) (fSeq (fAsg (fFmB (fVar 0)) (gNm 2)) (fRet (fZf (fVar 2) (fVar 1)))))
def F_bits_of : Fn := (fRun 2 3 false (B_bits_of))
def B_rung_starts : FSt := (fSeq (fAsg (fLst true (fCons (fC (.int 0)) fNil)) (gNm 1)) (fSeq (fFor (iFix (fSl false (fVar 0) fNoPart (fPart (fUn (o1U fun i => .int (-i)) (fC (.int 1)))))) (gTp 2 (gCs (gNm 2) (gCs (gNm 3) gNl))) (fApp (fVar 1) (fOp (oAdd false) (fOp oIx (fVar 1) (fUn (o1U fun i => .int (-i)) (fC (.int 1)))) (fOp oShl (fC (.int 1)) (fVar 3)))) [2, 3]) (fFrz 1 (fRet (fCB cTuple (fCons (fVar 1) fNil))))))
def F_rung_starts : Fn := (fRun 1 4 false (B_rung_starts))
def B_codewords_4 : FSt := (fFrz 1 (fRet (fCB cTuple (fCons (fVar 1) fNil))))
def B_codewords_3 : FSt := (fSeq (fFor (iFix (fCB cSortL (fCons (fLc false (iE (fCons (fVar 0) fNil)) (gTp 2 (gCs (gNm 5) (gCs (gNm 4) gNl))) fYes (fTup (fCons (fVar 4) (fCons (fVar 5) fNil))) [5, 4]) fNil))) (gTp 2 (gCs (gNm 4) (gCs (gNm 5) gNl))) (fSeq (fAsg (fOp oShl (fVar 2) (fOp oSub (fVar 4) (fVar 3))) (gNm 2)) (fSeq (fSet (fVar 1) (fVar 5) (fDef [false, false] FRL.F_bits_of [] (fCons (fVar 2) (fCons (fVar 4) fNil)))) (fSeq (fAug 2 (fun i j => i + j) (fC (.int 1))) (fAsg (fVar 4) (gNm 3))))) [4, 5]) B_codewords_4)
def B_codewords_2 : FSt := (fSeq (fAsg (fC (.int 0)) (gNm 3)) B_codewords_3)
def B_codewords_1 : FSt := (fSeq (fAsg (fC (.int 0)) (gNm 2)) B_codewords_2)
def B_codewords : FSt := (fSeq (fAsg (fOp (oRep true) (fLst false (fCons (fC (.str "")) fNil)) (fCB cLen (fCons (fVar 0) fNil))) (gNm 1)) B_codewords_1)
def F_codewords : Fn := (fRun 1 6 false (B_codewords))
def B_are_complete (K : PySem.W.Frag) : FSt := (fSeq (fIf (fNot (fTest (fCB cAll (fCons (fLc false (iFix (fVar 0)) (gNm 1) fYes (fChain (oI0 fun i j => .bl (decide (i ≤ j))) (oI0 fun i j => .bl (decide (i ≤ j))) (fC (.int 0)) (fVar 1) (fC (.int 15))) [1]) fNil)))) (fRet (fC (.bl false))) fNext) (fRet (fOp oEq (fCB cSum (fCons (fLc false (iFix (fVar 0)) (gNm 1) fYes (fOp oShl (fC (.int 1)) (fOp oSub (fC (.int 15)) (fVar 1))) [1]) fNil)) (fOp oShl (fC (.int 1)) (fC (.int 15))))))
def F_are_complete (K : PySem.W.Frag) : Fn := (fRun 1 2 false (B_are_complete K))
def B_entries_of : FSt := (fRet (fIfE (fTest (fOp oIsN (fVar 1) (fC .non))) (fCB (cList false) (fCons (fVar 0) fNil)) (fLst false (fStar (fVar 0) (fCons (fVar 1) fNil)))))
def F_entries_of : Fn := (fRun 2 2 false (B_entries_of))
def B_can_be_table_3 (K : PySem.W.Frag) : FSt := (fRet (fDef [false] (FRL.F_are_complete K) [] (fCons (fLc false (iFix (fDef [false, false] FRL.F_entries_of [] (fCons (fVar 0) (fCons (fVar 1) fNil)))) (gTp 2 (gCs (gNm 4) (gCs (gNm 2) gNl))) fYes (fVar 4) [4, 2]) fNil)))
def B_can_be_table_2 (K : PySem.W.Frag) : FSt := (fSeq (fIf (fAnd (fTest (fOp oNotN (fVar 1) (fC .non))) (fNot (fTest (fChain (oI0 fun i j => .bl (decide (i ≤ j))) (oI0 fun i j => .bl (decide (i ≤ j))) (fC (.int 0)) (fOp oIx (fVar 1) (fC (.int 1))) (fC (.int 5)))))) (fRet (fC (.bl false))) fNext) (B_can_be_table_3 K))
def B_can_be_table_1 (K : PySem.W.Frag) : FSt := (fSeq (fIf (fNot (fTest (fCB cAll (fCons (fLc false (iFix (fVar 0)) (gTp 2 (gCs (gNm 2) (gCs (gNm 3) gNl))) fYes (fChain (oI0 fun i j => .bl (decide (i ≤ j))) (oI0 fun i j => .bl (decide (i ≤ j))) (fC (.int 0)) (fVar 3) (fC (.int 16))) [2, 3]) fNil)))) (fRet (fC (.bl false))) fNext) (B_can_be_table_2 K))
def B_can_be_table (K : PySem.W.Frag) : FSt := (fSeq (fIf (fNot (fTest (fChain (oI0 fun i j => .bl (decide (i ≤ j))) (oI0 fun i j => .bl (decide (i ≤ j))) (fC (.int 1)) (fCB cLen (fCons (fVar 0) fNil)) (fC (.int 15))))) (fRet (fC (.bl false))) fNext) (B_can_be_table_1 K))
def F_can_be_table (K : PySem.W.Frag) : Fn := (fRun 2 5 false (B_can_be_table K))
def B_Table_init_5 (K : PySem.W.Frag) : FSt := (fFldS (He.ga K "Table") "words" (fVar 0) (fDef [false] FRL.F_codewords [] (fCons (fLc false (iFix (fDef [false, false] FRL.F_entries_of [] (fCons (fFld (He.ga K "Table") "rungs" (fVar 0)) (fCons (fVar 2) fNil)))) (gTp 2 (gCs (gNm 3) (gCs (gNm 4) gNl))) fYes (fVar 3) [3, 4]) fNil)))
def B_Table_init_4 (K : PySem.W.Frag) : FSt := (fSeq (fFldS (He.ga K "Table") "total" (fVar 0) (fOp (oAdd false) (fOp oIx (fFld (He.ga K "Table") "starts" (fVar 0)) (fUn (o1U fun i => .int (-i)) (fC (.int 1)))) (fOp oShl (fC (.int 1)) (fOp oIx (fOp oIx (fFld (He.ga K "Table") "rungs" (fVar 0)) (fUn (o1U fun i => .int (-i)) (fC (.int 1)))) (fC (.int 1)))))) (B_Table_init_5 K))
def B_Table_init_3 (K : PySem.W.Frag) : FSt := (fSeq (fFldS (He.ga K "Table") "starts" (fVar 0) (fDef [false] FRL.F_rung_starts [] (fCons (fFld (He.ga K "Table") "rungs" (fVar 0)) fNil))) (B_Table_init_4 K))
def B_Table_init_2 (K : PySem.W.Frag) : FSt := (fSeq (fFldS (He.ga K "Table") "repeat" (fVar 0) (fVar 2)) (B_Table_init_3 K))
def B_Table_init_1 (K : PySem.W.Frag) : FSt := (fSeq (fFldS (He.ga K "Table") "rungs" (fVar 0) (fCB cTuple (fCons (fVar 1) fNil))) (B_Table_init_2 K))
def B_Table_init (K : PySem.W.Frag) : FSt := (fSeq (fIf (fNot (fTest (fDef [false, false] (FRL.F_can_be_table K) [] (fCons (fVar 1) (fCons (fVar 2) fNil))))) (fRaise0 "BadTable") fNext) (B_Table_init_1 K))
def F_Table_init (K : PySem.W.Frag) : Fn := (fRun 3 5 false (B_Table_init K))
def B_Table_rung_of_3 (K : PySem.W.Frag) : FSt := (fRet (fVar 2))
def B_Table_rung_of_2 (K : PySem.W.Frag) : FSt := (fSeq (fWhl 4096 (fTest (fOp (oI0 fun i j => .bl (decide (j < i))) (fOp oIx (fFld (He.ga K "Table") "starts" (fVar 0)) (fVar 2)) (fVar 1))) (fAug 2 (fun i j => i - j) (fC (.int 1))) []) (B_Table_rung_of_3 K))
def B_Table_rung_of_1 (K : PySem.W.Frag) : FSt := (fSeq (fAsg (fOp oSub (fCB cLen (fCons (fFld (He.ga K "Table") "starts" (fVar 0)) fNil)) (fC (.int 1))) (gNm 2)) (B_Table_rung_of_2 K))
def B_Table_rung_of (K : PySem.W.Frag) : FSt := (fSeq (fIf (fNot (fTest (fChain (oI0 fun i j => .bl (decide (i ≤ j))) (oI0 fun i j => .bl (decide (i < j))) (fC (.int 0)) (fVar 1) (fFld (He.ga K "Table") "total" (fVar 0))))) (fRaiseO "NoRung" ["number"] (fCons (fVar 1) fNil)) fNext) (B_Table_rung_of_1 K))
def F_Table_rung_of (K : PySem.W.Frag) : Fn := (fRun 2 3 false (B_Table_rung_of K))
def B_Table_literal (K : PySem.W.Frag) : FSt := (fSeq (fAsg (fMet (He.ga K "Table") "rung_of" (FRL.F_Table_rung_of K) [] (fVar 0) (fCons (fVar 1) fNil)) (gNm 2)) (fRet (fOp (oAdd false) (fOp oIx (fFld (He.ga K "Table") "words" (fVar 0)) (fVar 2)) (fDef [false, false] FRL.F_bits_of [] (fCons (fOp oSub (fVar 1) (fOp oIx (fFld (He.ga K "Table") "starts" (fVar 0)) (fVar 2))) (fCons (fOp oIx (fOp oIx (fFld (He.ga K "Table") "rungs" (fVar 0)) (fVar 2)) (fC (.int 1))) fNil))))))
def F_Table_literal (K : PySem.W.Frag) : Fn := (fRun 2 3 false (B_Table_literal K))
def B_Table_most_repeated (K : PySem.W.Frag) : FSt := (fRet (fIfE (fTest (fOp oIsN (fFld (He.ga K "Table") "repeat" (fVar 0)) (fC .non))) (fC (.int 0)) (fOp oShl (fC (.int 1)) (fOp oIx (fFld (He.ga K "Table") "repeat" (fVar 0)) (fC (.int 1))))))
def F_Table_most_repeated (K : PySem.W.Frag) : Fn := (fRun 1 1 false (B_Table_most_repeated K))
def B_Table_repetition (K : PySem.W.Frag) : FSt := (fSeq (fIf (fNot (fTest (fChain (oI0 fun i j => .bl (decide (i ≤ j))) (oI0 fun i j => .bl (decide (i ≤ j))) (fC (.int 1)) (fVar 1) (fMet (He.ga K "Table") "most_repeated" (FRL.F_Table_most_repeated K) [] (fVar 0) fNil)))) (fRaiseO "NoRung" ["number"] (fCons (fVar 1) fNil)) fNext) (fRet (fOp (oAdd false) (fOp oIx (fFld (He.ga K "Table") "words" (fVar 0)) (fUn (o1U fun i => .int (-i)) (fC (.int 1)))) (fDef [false, false] FRL.F_bits_of [] (fCons (fOp oSub (fVar 1) (fC (.int 1))) (fCons (fOp oIx (fFld (He.ga K "Table") "repeat" (fVar 0)) (fC (.int 1))) fNil))))))
def F_Table_repetition (K : PySem.W.Frag) : Fn := (fRun 2 2 false (B_Table_repetition K))
def B_Table_serves (K : PySem.W.Frag) : FSt := (fRet (fChain (oI0 fun i j => .bl (decide (i < j))) (oI0 fun i j => .bl (decide (i ≤ j))) (fOp oIx (fFld (He.ga K "Table") "starts" (fVar 0)) (fUn (o1U fun i => .int (-i)) (fC (.int 1)))) (fVar 1) (fFld (He.ga K "Table") "total" (fVar 0))))
def F_Table_serves (K : PySem.W.Frag) : Fn := (fRun 2 2 false (B_Table_serves K))
def B_L_bits : FSt := (fSeq (fAsg (fC (.str "")) (gNm 2)) (fSeq (fFor (iR1 (fCons (fVar 1) fNil)) (gNm 3) (fSeq (fAsg (fOp (oAdd false) (fOp oIx (fC (.str "01")) (fOp oMod (fCB cInt (fCons (fVar 0) fNil)) (fC (.int 2)))) (fVar 2)) (gNm 2)) (fAsg (fOp oDiv (fVar 0) (fC (.int 2))) (gNm 0))) [3]) (fRet (fVar 2))))
def F_L_bits : Fn := (fRun 2 4 false (B_L_bits))
def B_L_codewords_6 : FSt := (fFrz 2 (fRet (fVar 2)))
def B_L_codewords_5 : FSt := (fSeq (fFor (iR1 (fCons (fC (.int 16)) fNil)) (gNm 6) (fFor (iR1 (fCons (fCB cLen (fCons (fVar 1) fNil)) fNil)) (gNm 7) (fIf (fTest (fOp oEqD (fOp oIx (fOp oIx (fVar 1) (fVar 7)) (fC (.int 0))) (fVar 6))) (fSeq (fAsg (fOp oShl (fVar 4) (fOp oSub (fVar 6) (fVar 5))) (gNm 4)) (fSeq (fAsg (fVar 6) (gNm 5)) (fSeq (fSet (fVar 2) (fVar 7) (fDef [false, false] FRL.F_L_bits [] (fCons (fVar 4) (fCons (fVar 6) fNil)))) (fAsg (fOp (oAdd false) (fVar 4) (fC (.int 1))) (gNm 4))))) fNext) [7]) [6, 7]) B_L_codewords_6)
def B_L_codewords_4 : FSt := (fSeq (fAsg (fC (.int 0)) (gNm 5)) B_L_codewords_5)
def B_L_codewords_3 : FSt := (fSeq (fAsg (fC (.int 0)) (gNm 4)) B_L_codewords_4)
def B_L_codewords_2 : FSt := (fFrz 1 (fSeq (fAsg (fLc true (iFix (fVar 1)) (gNm 3) fYes (fC (.str "")) [3]) (gNm 2)) B_L_codewords_3))
def B_L_codewords_1 : FSt := (fSeq (fIf (fTest (fOp oNotN (fOp oIx (fVar 0) (fC (.int 1))) (fC .non))) (fApp (fVar 1) (fOp oIx (fVar 0) (fC (.int 1)))) fNext) B_L_codewords_2)
def B_L_codewords : FSt := (fSeq (fAsg (fCB (cList true) (fCons (fOp oIx (fVar 0) (fC (.int 0))) fNil)) (gNm 1)) B_L_codewords_1)
def F_L_codewords : Fn := (fRun 1 8 false (B_L_codewords))
def B_L_complete : FSt := (fSeq (fAsg (fLst true (fCons (fC (.int 0)) fNil)) (gNm 2)) (fSeq (fFor (iR1 (fCons (fOp oSub (fVar 1) (fC (.int 1))) fNil)) (gNm 3) (fSeq (fAsg (fDef [true, false] FRL.F_L_draw [] (fCons (fVar 0) (fCons (fCB cLen (fCons (fVar 2) fNil)) fNil))) (gNm 4)) (fSeq (fSet (fVar 2) (fVar 4) (fOp (oAdd false) (fOp oIx (fVar 2) (fVar 4)) (fC (.int 1)))) (fApp (fVar 2) (fOp oIx (fVar 2) (fVar 4))))) [3, 4]) (fFrz 2 (fRet (fVar 2)))))
def F_L_complete : Fn := (fRun 2 5 false (B_L_complete))
def B_L_dealt_3 : FSt := (fFrz 3 (fRet (fVar 3)))
def B_L_dealt_2 : FSt := (fSeq (fFor (iR1 (fCons (fCB cLen (fCons (fVar 1) fNil)) fNil)) (gNm 4) (fApp (fVar 3) (fPop (fVar 2) (fDef [true, false] FRL.F_L_draw [] (fCons (fVar 0) (fCons (fCB cLen (fCons (fVar 2) fNil)) fNil))))) [4]) B_L_dealt_3)
def B_L_dealt_1 : FSt := (fSeq (fAsg (fLst true fNil) (gNm 3)) B_L_dealt_2)
def B_L_dealt : FSt := (fSeq (fAsg (fCB (cList true) (fCons (fVar 1) fNil)) (gNm 2)) B_L_dealt_1)
def F_L_dealt : Fn := (fRun 2 5 false (B_L_dealt))
def B_L_any_table_8 : FSt := (fRet (fTup (fCons (fVar 6) (fCons (fC .non) fNil))))
def B_L_any_table_7 : FSt := (fSeq (fIf (fTest (fOp oEq (fVar 2) (fC (.int 1)))) (fRet (fTup (fCons (fVar 6) (fCons (fTup (fCons (fOp oIx (fVar 4) (fVar 1)) (fCons (fDef [true, false] FRL.F_L_draw [] (fCons (fVar 0) (fCons (fC (.int 6)) fNil))) fNil))) fNil)))) fNext) B_L_any_table_8)
def B_L_any_table_6 : FSt := (fSeq (fAsg (fCB cTuple (fCons (fLc false (iR1 (fCons (fVar 1) fNil)) (gNm 5) fYes (fTup (fCons (fOp oIx (fVar 4) (fVar 5)) (fCons (fDef [true, false] FRL.F_L_draw [] (fCons (fVar 0) (fCons (fVar 3) fNil))) fNil))) [5]) fNil)) (gNm 6)) B_L_any_table_7)
def B_L_any_table_5 : FSt := (fSeq (fAsg (fDef [true, false] FRL.F_L_dealt [] (fCons (fVar 0) (fCons (fVar 4) fNil))) (gNm 4)) B_L_any_table_6)
def B_L_any_table_4 : FSt := (fSeq (fIf (fTest (fOp oEq (fDef [true, false] FRL.F_L_draw [] (fCons (fVar 0) (fCons (fC (.int 5)) fNil))) (fC (.int 0)))) (fAsg (fLc false (iR1 (fCons (fOp (oAdd false) (fVar 1) (fVar 2)) fNil)) (gNm 5) fYes (fCB cMin2 (fCons (fOp (oAdd false) (fVar 5) (fC (.int 1))) (fCons (fOp oSub (fOp (oAdd false) (fVar 1) (fVar 2)) (fC (.int 1))) fNil))) [5]) (gNm 4)) fNext) B_L_any_table_5)
def B_L_any_table_3 : FSt := (fSeq (fAsg (fDef [true, false] FRL.F_L_complete [] (fCons (fVar 0) (fCons (fOp (oAdd false) (fVar 1) (fVar 2)) fNil))) (gNm 4)) B_L_any_table_4)
def B_L_any_table_2 : FSt := (fSeq (fAsg (fDef [true, false] FRL.F_L_pick [] (fCons (fVar 0) (fCons (fLst false (fCons (fC (.int 17)) (fCons (fC (.int 4)) (fCons (fC (.int 1)) fNil)))) fNil))) (gNm 3)) B_L_any_table_3)
def B_L_any_table_1 : FSt := (fSeq (fAsg (fDef [true, false] FRL.F_L_draw [] (fCons (fVar 0) (fCons (fC (.int 2)) fNil))) (gNm 2)) B_L_any_table_2)
def B_L_any_table : FSt := (fSeq (fAsg (fOp (oAdd false) (fC (.int 1)) (fDef [true, false] FRL.F_L_draw [] (fCons (fVar 0) (fCons (fDef [true, false] FRL.F_L_pick [] (fCons (fVar 0) (fCons (fLst false (fCons (fC (.int 15)) (fCons (fC (.int 15)) (fCons (fC (.int 2)) fNil)))) fNil))) fNil)))) (gNm 1)) B_L_any_table_1)
def F_L_any_table : Fn := (fRun 1 7 false (B_L_any_table))
def B_L_starts : FSt := (fSeq (fAsg (fLst true (fCons (fC (.int 0)) fNil)) (gNm 1)) (fSeq (fFor (iFix (fVar 0)) (gNm 2) (fApp (fVar 1) (fOp (oAdd false) (fOp oIx (fVar 1) (fUn (o1U fun i => .int (-i)) (fC (.int 1)))) (fOp oShl (fC (.int 1)) (fOp oIx (fVar 2) (fC (.int 1)))))) [2]) (fFrz 1 (fRet (fVar 1)))))
def F_L_starts : Fn := (fRun 1 3 false (B_L_starts))
end
local macro_rules | `(tactic| walk_at "ev") => `(tactic| simp (disch := omega) only [iET, fCon, fStar, oShr, cNn_r, cMax2, fExt, cAll, cAny, cLB, cSum, cLI, iRevR1, fRun, fin_nx, fin_rt, fin_xc, fin_none, fin_ite, cMul_l, cMul_r, cDiv_r, cPos_r, cPow_r, Nat.not_lt_zero,  fSeq, fIf, fAsg, fAug, oRep, oRepT, fRet, fRetN, fNext, fVar, fC, fOp, fUn, fTest, fAnd, fOr, fNot, fAndV, fOrV, fNotV, fIfE, fNil, fCons, fTup, fLst, fCB, fDef, fDrop, fSet, fApp, fTru, fChain, asB, cLen, cInt, cAbs, cMin2, cIsi, oI, oI0, oMul, oDiv, oMod, oPow, oSub, oEq, oNe, oIx, oAdd, oIsN, oIsB, oNotN, isN, o1U,
  bd_ok, bd_ex, bd_none, bd_ite, sb_nx, sb_rt, sb_bk, sb_ct, sb_xc, sb_none, sb_ite, eb_ok, eb_ex, eb_none, eb_ite, startW, fSl, fPart, fNoPart, fNew, fFld, fFldS, fFldA, fDefK, fSCount, cBool, iSigns, cIsiC, oEqO, mins, insOf, fMet, isO, fGet, fOwn, onlyO, fNeg, fOwnI, oRefl, oShl, cTuple, cList, lookup_lkS, lkS, Nat.reduceEqDiff, Nat.zero_ne_one, Nat.one_ne_zero, str_inj, String.reduceEq, List.isEmpty_nil, List.isEmpty_cons, putD, fRaise0, fRaiseO, fTryAs, fTryOnly, catch_nx, catch_rt, catch_bk, catch_ct, catch_xc, catch_none, catch_ite, allv_some, gone_nx, gone_rt, gone_bk, gone_ct, gone_ite, calm_nx, calm_rt, calm_bk, calm_ct, calm_ite, fXa, cIsX, truW, truth, eq_self, fFor, fFrz, frzW, turn, lt_nx, lt_ct, lt_bk, lt_rt, lt_xc, lt_none, lt_ite, lc, cutL, wipeW, inCutB, cutL, lcTurn, fLc, fYes, iFix, iFixL, iFixT, iR1, iR2, iR3, fixOf, fCallW, passI, passWs, passW, idx, noBb, backW, merge, List.getD_cons_zero, List.getD_cons_succ, Int.cast_ofNat_Int, Int.natCast_one, Int.natCast_zero, List.nodup_cons, List.nodup_nil, List.all_cons, List.all_nil, List.not_mem_nil, not_false_eq_true, and_true, true_and, List.mem_cons, or_false, false_or, gNm, gNl, gCs, gTp, Nat.not_lt_zero, rtW, newL, at_0, at_1, at_2, at_3, at_4, at_5, at_6, at_7, ixN_1_0, ixN_2_0, ixN_2_1, ixN_3_0, ixN_3_1, ixN_3_2, ixN_4_0, ixN_4_1, ixN_4_2, ixN_4_3, ixN_5_0, ixN_5_1, ixN_5_2, ixN_5_3, ixN_5_4, alls, allb, seqOf, lstOf, mlist, scal, tyN, tyW, kt_int_int, kt_int_bool, kt_int_str, kt_int_tuple, kt_int_list, kt_bool_int, kt_bool_bool, kt_bool_str, kt_bool_tuple, kt_bool_list, kt_str_int, kt_str_bool, kt_str_str, kt_str_tuple, kt_str_list, kt_tuple_int, kt_tuple_bool, kt_tuple_str, kt_tuple_tuple, kt_tuple_list, kt_list_int, kt_list_bool, kt_list_str, kt_list_tuple, kt_list_list, kt_NoneType_int, kt_NoneType_bool, kt_NoneType_str, kt_NoneType_tuple, kt_NoneType_list, item, dws,
  List.length_cons, List.length_nil, List.map_cons, List.map_nil, List.cons_append, List.nil_append, List.append_nil, List.getElem?_nil, List.getElem?_cons_zero, List.getElem?_cons_succ, List.set_cons_zero, List.set_cons_succ, List.replicate, Option.map_some, Nat.sub_self, Nat.reduceSub, Nat.reduceAdd, Nat.reduceLT, Nat.reduceLeDiff, decide_true, decide_false, if_true, if_false, ite_true, ite_false, Bool.false_eq_true, Bool.not_true, Bool.not_false, Bool.and_true, Bool.true_and, Bool.and_false, Bool.false_and, Bool.or_true, Bool.true_or, Bool.or_false, Bool.false_or, decide_eq_true_eq, Nat.zero_le, Nat.le_refl, Nat.lt_irrefl, List.take_succ_cons, List.take_zero, List.take_nil, V.int.injEq, V.bl.injEq, V.str.injEq, reduceCtorEq, smallB_le, r62_le, rgB_le, fLstR1, fLstR2, cSortI, isLst, rints_len, Int.toNat_natCast, beq_self_eq_true, Option.some.injEq])
local macro_rules | `(tactic| simp? [$ls,*]) => `(tactic| simp (maxSteps := 2000000) (disch := first | omega | assumption | (simp only [List.length_cons, List.length_nil, List.length_map]; omega)) only [iET, fCon, fStar, oShr, cNn_r, cMax2, fExt, cAll, cAny, cLB, cSum, cLI, iRevR1, fRun, fin_nx, fin_rt, fin_xc, fin_none, fin_ite, cMul_l, cMul_r, cDiv_r, cPos_r, cPow_r, Nat.not_lt_zero,  fSeq, fIf, fAsg, fAug, oRep, oRepT, fRet, fRetN, fNext, fVar, fC, fOp, fUn, fTest, fAnd, fOr, fNot, fAndV, fOrV, fNotV, fIfE, fNil, fCons, fTup, fLst, fCB, fDef, fDrop, fSet, fApp, fTru, fChain, asB, cLen, cInt, cAbs, cMin2, cIsi, oI, oI0, oMul, oDiv, oMod, oPow, oSub, oEq, oNe, oIx, oAdd, oIsN, oIsB, oNotN, isN, o1U,
  bd_ok, bd_ex, bd_none, bd_ite, sb_nx, sb_rt, sb_bk, sb_ct, sb_xc, sb_none, sb_ite, eb_ok, eb_ex, eb_none, eb_ite, startW, fSl, fPart, fNoPart, fNew, fFld, fFldS, fFldA, fDefK, fSCount, cBool, iSigns, cIsiC, oEqO, mins, insOf, fMet, isO, fGet, fOwn, onlyO, fNeg, fOwnI, oRefl, oShl, cTuple, cList, lookup_lkS, lkS, Nat.reduceEqDiff, Nat.zero_ne_one, Nat.one_ne_zero, str_inj, String.reduceEq, List.isEmpty_nil, List.isEmpty_cons, putD, fRaise0, fRaiseO, fTryAs, fTryOnly, catch_nx, catch_rt, catch_bk, catch_ct, catch_xc, catch_none, catch_ite, allv_some, gone_nx, gone_rt, gone_bk, gone_ct, gone_ite, calm_nx, calm_rt, calm_bk, calm_ct, calm_ite, fXa, cIsX, truW, truth, eq_self, fFor, fFrz, frzW, turn, lt_nx, lt_ct, lt_bk, lt_rt, lt_xc, lt_none, lt_ite, lc, cutL, wipeW, inCutB, cutL, lcTurn, fLc, fYes, iFix, iFixL, iFixT, iR1, iR2, iR3, fixOf, fCallW, passI, passWs, passW, idx, noBb, backW, merge, List.getD_cons_zero, List.getD_cons_succ, Int.cast_ofNat_Int, Int.natCast_one, Int.natCast_zero, List.nodup_cons, List.nodup_nil, List.all_cons, List.all_nil, List.not_mem_nil, not_false_eq_true, and_true, true_and, List.mem_cons, or_false, false_or, gNm, gNl, gCs, gTp, Nat.not_lt_zero, rtW, newL, at_0, at_1, at_2, at_3, at_4, at_5, at_6, at_7, ixN_1_0, ixN_2_0, ixN_2_1, ixN_3_0, ixN_3_1, ixN_3_2, ixN_4_0, ixN_4_1, ixN_4_2, ixN_4_3, ixN_5_0, ixN_5_1, ixN_5_2, ixN_5_3, ixN_5_4, alls, allb, seqOf, lstOf, mlist, scal, tyN, tyW, kt_int_int, kt_int_bool, kt_int_str, kt_int_tuple, kt_int_list, kt_bool_int, kt_bool_bool, kt_bool_str, kt_bool_tuple, kt_bool_list, kt_str_int, kt_str_bool, kt_str_str, kt_str_tuple, kt_str_list, kt_tuple_int, kt_tuple_bool, kt_tuple_str, kt_tuple_tuple, kt_tuple_list, kt_list_int, kt_list_bool, kt_list_str, kt_list_tuple, kt_list_list, kt_NoneType_int, kt_NoneType_bool, kt_NoneType_str, kt_NoneType_tuple, kt_NoneType_list, item, dws,
  List.length_cons, List.length_nil, List.map_cons, List.map_nil, List.cons_append, List.nil_append, List.append_nil, List.getElem?_nil, List.getElem?_cons_zero, List.getElem?_cons_succ, List.set_cons_zero, List.set_cons_succ, List.replicate, Option.map_some, Nat.sub_self, Nat.reduceSub, Nat.reduceAdd, Nat.reduceLT, Nat.reduceLeDiff, decide_true, decide_false, if_true, if_false, ite_true, ite_false, Bool.false_eq_true, Bool.not_true, Bool.not_false, Bool.and_true, Bool.true_and, Bool.and_false, Bool.false_and, Bool.or_true, Bool.true_or, Bool.or_false, Bool.false_or, decide_eq_true_eq, Nat.zero_le, Nat.le_refl, Nat.lt_irrefl, List.take_succ_cons, List.take_zero, List.take_nil, V.int.injEq, V.bl.injEq, V.str.injEq, reduceCtorEq, smallB_le, r62_le, rgB_le, fLstR1, fLstR2, cSortI, isLst, rints_len, Int.toNat_natCast, beq_self_eq_true, Option.some.injEq, $ls,*])
def sumL (l : List Nat) : Nat := l.foldr (· + ·) 0
theorem sumL_cons {a : Nat} {l : List Nat} : sumL (a :: l) = a + sumL l := rfl
theorem sumL_app {a b : List Nat} : sumL (a ++ b) = sumL a + sumL b := by
  induction a with
  | nil => simp [sumL]
  | cons x a ih => rw [List.cons_append, sumL_cons, sumL_cons, ih]; omega
theorem sumL_perm {a b : List Nat} (p : a.Perm b) : sumL a = sumL b := by
  induction p with
  | nil => rfl
  | cons x _ ih => rw [sumL_cons, sumL_cons, ih]
  | swap x y l => simp only [sumL_cons]; omega
  | trans _ _ h1 h2 => rw [h1, h2]
theorem getD_eq {l : List Nat} {i : Nat} (h : i < l.length) : l.getD i 0 = l[i] := by
  rw [List.getD_eq_getElem?_getD, List.getElem?_eq_getElem h]; rfl
theorem getD_set {L : List Nat} {p q v : Nat} (h : p < L.length) : (L.set p v).getD q 0 = if q = p then v else L.getD q 0 := by
  rw [List.getD_eq_getElem?_getD, List.getElem?_set]
  by_cases e : p = q
  · subst e
    rw [if_pos rfl, if_pos h, if_pos rfl]
    rfl
  · rw [if_neg e, if_neg (fun q' => e q'.symm), List.getD_eq_getElem?_getD]
theorem fseq_nx {a b : FSt} {ρ ρ' : Rho} {μ μ' : Mu} (h : a ρ μ = some (.nx ρ' μ')) : fSeq a b ρ μ = b ρ' μ' := by
  unfold fSeq
  rw [h]
  rfl
theorem sum_nat {l : List Nat} : (l.map fun n : Nat => (n : Int)).sum = ((sumL l : Nat) : Int) := by
  induction l with
  | nil => rfl
  | cons a l ih =>
    rw [List.map_cons, List.sum_cons, ih, sumL_cons]
    omega
theorem intsOf_nat {l : List Nat} : intsOf (natD l) = some (l.map fun n : Nat => (n : Int)) := by
  have : natD l = (l.map fun n : Nat => (n : Int)).map D.int := by
    unfold natD
    rw [List.map_map]
    rfl
  rw [this]
  exact intsOf_map
/-- a rival -/
structure Rv (n : Nat) (r : List Nat) : Prop where
  len : r.length = n
  le : ∀ x ∈ r, x ≤ 15
  kr : sumL (r.map fun x => 2 ^ (15 - x)) = 32768
/-! ### dealt -/
def dealtT (q : DS × List Nat × List Nat) (_ : Nat) : DS × List Nat × List Nat := (drawS q.1 q.2.1.length, q.2.1.eraseIdx (drawV q.1 q.2.1.length).toNat, q.2.2 ++ [q.2.1.getD (drawV q.1 q.2.1.length).toNat 0])
theorem natD_erase : ∀ {l : List Nat} {i : Nat}, (natD l).eraseIdx i = natD (l.eraseIdx i)
  | [], _ => rfl
  | _ :: _, 0 => rfl
  | a :: l, i + 1 => by
    show D.int (a : Nat) :: (natD l).eraseIdx i = _
    rw [natD_erase]
    rfl
theorem perm_erase : ∀ {l : List Nat} {i : Nat}, i < l.length → (l.getD i 0 :: l.eraseIdx i).Perm l
  | [], _, h => by simp at h
  | a :: l, 0, _ => .refl _
  | a :: l, i + 1, h => by
    show (l.getD i 0 :: a :: l.eraseIdx i).Perm (a :: l)
    exact (List.Perm.swap _ _ _).trans (.cons a (perm_erase (by simpa using h)))
theorem dealt_eq {l : List Nat} (hl : l.length ≤ 1000) {s : DS} : ∃ (s' : DS) (l' : List Nat), l'.Perm l ∧ F_L_dealt [.m 0, .d (.lst (natD l))] [.lst s.l] = some (.ok (.d (.lst (natD l'))) [.lst s'.l]) := by
  have inv := range_inv (f := dealtT) (fun i (q : DS × List Nat × List Nat) => q.2.1.length + i = l.length ∧ q.2.2.length = i ∧ (q.2.2 ++ q.2.1).Perm l) (a := (s, l, [])) (m := l.length) ⟨rfl, rfl, .refl _⟩ (fun i q hi ⟨h1, h2, h3⟩ => by
    have hd := drawV_lt (s := q.1) (m := q.2.1.length) (by omega)
    have hlt : (drawV q.1 q.2.1.length).toNat < q.2.1.length := by omega
    unfold dealtT
    dsimp only
    refine ⟨by rw [List.length_eraseIdx, if_pos hlt]; omega, by rw [List.length_append, h2]; rfl, ?_⟩
    rw [List.append_assoc]
    exact (List.Perm.append_left _ (perm_erase hlt)).trans h3)
  obtain ⟨i1, i2, i3⟩ := inv
  refine ⟨((List.range l.length).foldl dealtT (s, l, [])).1, ((List.range l.length).foldl dealtT (s, l, [])).2.2, ?_, ?_⟩
  · have e : ((List.range l.length).foldl dealtT (s, l, [])).2.1 = [] := List.eq_nil_of_length_eq_zero (by omega)
    rw [e, List.append_nil] at i3
    exact i3
  · unfold F_L_dealt B_L_dealt B_L_dealt_1 B_L_dealt_2 B_L_dealt_3
    simp? [natD_len]
    rw [rints_nat, loop_range (fun q : DS × List Nat × List Nat => ([some (.m 0), some (.d (.lst (natD l))), some (.m 1), some (.m 2), none], [.lst q.1.l, .lst (natD q.2.1), .lst (natD q.2.2)])) (fun n : Nat => wi (n : Nat)) dealtT (fun i (q : DS × List Nat × List Nat) => q.2.1.length + i = l.length ∧ q.2.2.length = i) (s, l, []) ?_ ⟨rfl, rfl⟩ ?_]
    · simp? [eq_self]
      done
    · rfl
    · rintro i ⟨s, left, dealt⟩ hi ⟨h1, h2⟩
      dsimp only at h1 h2
      have hd := drawV_lt (s := s) (m := left.length) (by omega)
      have hlt : (drawV s left.length).toNat < left.length := by omega
      refine ⟨⟨by unfold dealtT; dsimp only; rw [List.length_eraseIdx, if_pos hlt]; omega, by unfold dealtT; dsimp only; rw [List.length_append, h2]; rfl⟩, fun k => ?_⟩
      have x1 := F_L_draw_eq (s := s) (m := left.length) (by omega) (by omega)
      unfold dealtT
      dsimp only
      obtain ⟨j, hj⟩ := Int.eq_ofNat_of_zero_le hd.1
      rw [hj] at x1 hlt ⊢
      rw [Int.toNat_natCast] at hlt ⊢
      have x2 : ixN left.length (j : Int) = some j := DL.ixN_nat hlt
      have x3 : (natD left)[j]? = some (D.v (V.int (left.getD j 0 : Nat))) := by
        unfold natD
        rw [List.getElem?_map, List.getElem?_eq_getElem hlt, getD_eq hlt]
        rfl
      simp? [x1, x2, x3, fPop, natD_len, natD_erase]
      rw [natD_app]
      rfl
/-! ### complete lengths -/
def cplT (q : DS × List Nat) (_ : Nat) : DS × List Nat := (drawS q.1 q.2.length, (q.2.set (drawV q.1 q.2.length).toNat (q.2.getD (drawV q.1 q.2.length).toNat 0 + 1)) ++ [q.2.getD (drawV q.1 q.2.length).toNat 0 + 1])
theorem sum_set {f : Nat → Nat} : ∀ {l : List Nat} {i v : Nat}, i < l.length → sumL ((l.set i v).map f) + f (l.getD i 0) = sumL (l.map f) + f v
  | [], _, _, h => by simp at h
  | a :: l, 0, v, _ => by
    show sumL (f v :: l.map f) + f a = sumL (f a :: l.map f) + f v
    rw [sumL_cons, sumL_cons]
    omega
  | a :: l, i + 1, v, h => by
    have ih := sum_set (f := f) (l := l) (i := i) (v := v) (by simpa using h)
    show sumL (f a :: (l.set i v).map f) + f (l.getD i 0) = sumL (f a :: l.map f) + f v
    rw [sumL_cons, sumL_cons]
    omega
theorem cpl_step {l : List Nat} {i : Nat} (h : i < l.length) (hl : l.length ≤ 15) (h1 : ∀ x ∈ l, x + 1 ≤ l.length) (h2 : sumL (l.map fun x => 2 ^ (15 - x)) = 32768) :
    (∀ x ∈ (l.set i (l.getD i 0 + 1)) ++ [l.getD i 0 + 1], x + 1 ≤ l.length + 1) ∧ sumL (((l.set i (l.getD i 0 + 1)) ++ [l.getD i 0 + 1]).map fun x => 2 ^ (15 - x)) = 32768 := by
  have hx := h1 _ (List.getElem_mem h)
  rw [← getD_eq h] at hx
  refine ⟨fun x hm => ?_, ?_⟩
  · rcases List.mem_append.mp hm with hm | hm
    · rcases List.mem_or_eq_of_mem_set hm with hm | hm
      · have := h1 x hm; omega
      · omega
    · have := List.mem_singleton.mp hm
      omega
  · rw [List.map_append, sumL_app]
    have e := sum_set (f := fun x => 2 ^ (15 - x)) (v := l.getD i 0 + 1) h
    show _ + (2 ^ (15 - (l.getD i 0 + 1)) + 0) = 32768
    have e2 : 2 ^ (15 - l.getD i 0) = 2 * 2 ^ (15 - (l.getD i 0 + 1)) := by
      rw [show 15 - l.getD i 0 = (15 - (l.getD i 0 + 1)) + 1 by omega, Nat.pow_succ, Nat.mul_comm]
    omega
theorem complete_eq {n : Nat} (h1 : 1 ≤ n) (hn : n ≤ 16) {s : DS} : ∃ (s' : DS) (l : List Nat), Rv n l ∧ F_L_complete [.m 0, wi (n : Nat)] [.lst s.l] = some (.ok (.d (.lst (natD l))) [.lst s'.l]) := by
  have step : ∀ (i : Nat) (q : DS × List Nat), i < n - 1 → (q.2.length = i + 1 ∧ (∀ x ∈ q.2, x + 1 ≤ q.2.length) ∧ sumL (q.2.map fun x => 2 ^ (15 - x)) = 32768) → ((cplT q i).2.length = i + 1 + 1 ∧ (∀ x ∈ (cplT q i).2, x + 1 ≤ (cplT q i).2.length) ∧ sumL ((cplT q i).2.map fun x => 2 ^ (15 - x)) = 32768) := by
    rintro i ⟨s, l⟩ hi ⟨a1, a2, a3⟩
    dsimp only at a1 a2 a3
    have hd := drawV_lt (s := s) (m := l.length) (by omega)
    have hlt : (drawV s l.length).toNat < l.length := by omega
    obtain ⟨b1, b2⟩ := cpl_step hlt (by omega) a2 a3
    have e : (cplT (s, l) i).2.length = l.length + 1 := by unfold cplT; dsimp only; rw [List.length_append, List.length_set]; rfl
    refine ⟨by omega, ?_, b2⟩
    rw [e]
    exact b1
  have inv := range_inv (f := cplT) (fun i (q : DS × List Nat) => q.2.length = i + 1 ∧ (∀ x ∈ q.2, x + 1 ≤ q.2.length) ∧ sumL (q.2.map fun x => 2 ^ (15 - x)) = 32768) (a := (s, [0])) (m := n - 1) ⟨rfl, by simp, rfl⟩ (fun i q hi h => step i q hi h)
  obtain ⟨i1, i2, i3⟩ := inv
  refine ⟨((List.range (n - 1)).foldl cplT (s, [0])).1, ((List.range (n - 1)).foldl cplT (s, [0])).2, ⟨by omega, fun x hx => by have := i2 x hx; omega, i3⟩, ?_⟩
  unfold F_L_complete B_L_complete
  have tn : ((n : Int) - 1).toNat = n - 1 := by omega
  simp? [tn]
  rw [rints_nat, loop_range (fun q : DS × List Nat => ([some (.m 0), some (wi (n : Nat)), some (.m 1), none, none], [.lst q.1.l, .lst (natD q.2)])) (fun n : Nat => wi (n : Nat)) cplT (fun i (q : DS × List Nat) => q.2.length = i + 1 ∧ (∀ x ∈ q.2, x + 1 ≤ q.2.length) ∧ sumL (q.2.map fun x => 2 ^ (15 - x)) = 32768) (s, [0]) ?_ ⟨rfl, by simp, rfl⟩ ?_]
  · simp? [eq_self]
  · rfl
  · rintro i ⟨s, l⟩ hi h
    refine ⟨step i _ hi h, fun k => ?_⟩
    obtain ⟨a1, _, _⟩ := h
    dsimp only at a1
    have hd := drawV_lt (s := s) (m := l.length) (by omega)
    have hlt : (drawV s l.length).toNat < l.length := by omega
    have x1 := F_L_draw_eq (s := s) (m := l.length) (by omega) (by omega)
    unfold cplT
    dsimp only
    obtain ⟨j, hj⟩ := Int.eq_ofNat_of_zero_le hd.1
    rw [hj] at x1 hlt ⊢
    rw [Int.toNat_natCast] at hlt ⊢
    have x2 : ixN l.length (j : Int) = some j := DL.ixN_nat hlt
    have x3 : atI (natD l) (j : Int) = some (.int (l.getD j 0 : Nat)) := natD_getD hlt
    have x4 : (natD l).set j (D.v (V.int ((l.getD j 0 : Nat) + 1))) = natD (l.set j (l.getD j 0 + 1)) := natD_set
    have x5 : atI (natD (l.set j (l.getD j 0 + 1))) (j : Int) = some (.int ((l.getD j 0 + 1 : Nat) : Int)) := by
      rw [natD_getD (by rw [List.length_set]; exact hlt), getD_set hlt, if_pos rfl]
    simp? [x1, x2, x3, x4, x5, natD_len, List.length_set]
    rw [natD_app]
    rfl
/-! ### bits -/
def bitL : Nat → Nat → List Nat
  | 0, _ => []
  | p + 1, v => bitL p (v / 2) ++ [48 + v % 2]
theorem bitL_zero : ∀ {p : Nat}, bitL p 0 = List.replicate p 48
  | 0 => rfl
  | p + 1 => by
    rw [bitL, Nat.zero_div, bitL_zero, List.replicate_succ', Nat.zero_mod]
def binL (v : Nat) : List Nat := (Nat.toDigits 2 v).map Char.toNat
theorem binL_small {v : Nat} (h : v < 2) : binL v = [48 + v] := by
  unfold binL
  rw [Nat.toDigits_of_lt_base h]
  match v, h with
  | 0, _ => rfl
  | 1, _ => rfl
theorem binL_big {v : Nat} (h : 2 ≤ v) : binL v = binL (v / 2) ++ [48 + v % 2] := by
  unfold binL
  rw [Nat.toDigits_of_base_le (by decide) h, List.map_append]
  have : v % 2 < 2 := Nat.mod_lt _ (by decide)
  congr 1
  generalize v % 2 = r at this
  match r, this with
  | 0, _ => rfl
  | 1, _ => rfl
theorem bin_bits : ∀ {p v : Nat}, 1 ≤ p → v < 2 ^ p → (binL v).length ≤ p ∧ List.replicate (p - (binL v).length) 48 ++ binL v = bitL p v
  | 0, _, h, _ => by omega
  | 1, v, _, h => by
    rw [binL_small (by simpa using h)]
    have : v % 2 = v := Nat.mod_eq_of_lt (by simpa using h)
    refine ⟨Nat.le_refl _, ?_⟩
    show [48 + v] = bitL 0 (v / 2) ++ [48 + v % 2]
    rw [this]
    rfl
  | p + 2, v, _, h => by
    by_cases c : v < 2
    · rw [binL_small c]
      have e1 : v % 2 = v := Nat.mod_eq_of_lt c
      have e2 : v / 2 = 0 := by omega
      refine ⟨by simp, ?_⟩
      show _ = bitL (p + 1) (v / 2) ++ [48 + v % 2]
      rw [e1, e2, bitL_zero]
      rfl
    · have h2 : v / 2 < 2 ^ (p + 1) := by
        rw [Nat.pow_succ] at h
        omega
      obtain ⟨i1, i2⟩ := bin_bits (p := p + 1) (v := v / 2) (by omega) h2
      rw [binL_big (by omega)]
      refine ⟨by rw [List.length_append]; show _ + 1 ≤ _; omega, ?_⟩
      rw [List.length_append, show p + 2 - ((binL (v / 2)).length + [48 + v % 2].length) = p + 1 - (binL (v / 2)).length by show p + 2 - (_ + 1) = _; omega, ← List.append_assoc, i2]
      rfl
theorem binL_head : ∀ {n v : Nat}, v < n → ∃ r, binL v = 48 :: r ∨ binL v = 49 :: r
  | 0, _, h => by omega
  | n + 1, v, h => by
    by_cases c : v < 2
    · rw [binL_small c]
      match v, c with
      | 0, _ => exact ⟨[], .inl rfl⟩
      | 1, _ => exact ⟨[], .inr rfl⟩
    · obtain ⟨r, e⟩ := binL_head (n := n) (v := v / 2) (by omega)
      rw [binL_big (by omega)]
      rcases e with e | e <;> rw [e]
      · exact ⟨_, .inl rfl⟩
      · exact ⟨_, .inr rfl⟩
theorem zfill_eq {p v : Nat} (h1 : 1 ≤ p) (h : v < 2 ^ p) : Txt.zfill (sOf (binL v)) (p : Nat) = sOf (bitL p v) := by
  obtain ⟨i1, i2⟩ := bin_bits h1 h
  obtain ⟨r, e⟩ := binL_head (Nat.lt_succ_self v)
  unfold Txt.zfill
  rw [sOf_len]
  by_cases c : (p : Int) ≤ (binL v).length
  · rw [if_pos c]
    have : p - (binL v).length = 0 := by omega
    rw [this] at i2
    rw [← i2]
    rfl
  · rw [if_neg c, Int.toNat_natCast, ← i2]
    generalize p - (binL v).length = k
    have hz : (sOf (binL v)).cps[0]? = some 48 ∨ (sOf (binL v)).cps[0]? = some 49 := by
      rcases e with e | e <;> rw [e]
      · exact .inl rfl
      · exact .inr rfl
    have hp : zfilled (sOf (binL v)) k = Builtin.Str.padded (sOf (binL v)) k 0 48 := by
      unfold zfilled
      rcases hz with hz | hz <;> rw [hz] <;> rfl
    rw [hp]
    unfold Builtin.Str.padded
    simp [sOf]
theorem bits_of_eq {p v : Nat} (hp : p ≤ 16) (h : v < 2 ^ p) : F_bits_of [wi v, wi p] [] = some (.ok (ws (sOf (bitL p v))) []) := by
  unfold F_bits_of B_bits_of
  have h0 : ∀ μ, oEqD (wi (p : Nat)) (wi 0) μ = some (.ok (wb (decide ((p : Int) = 0))) μ) := fun μ => by
    rw [oEqD_pn (n := 0) (m := 0) pn_int pn_int (by decide) (by decide)]
    congr 3
    rw [Bool.eq_iff_iff, eqB_iff, decide_eq_true_eq]
    constructor
    · intro h; injection h with h; injection h
    · intro h; rw [h]
  by_cases c : p = 0
  · subst c
    simp? [h0]
    rfl
  · have c' : ¬ (p : Int) = 0 := by omega
    have e1 : FmB.binS v = sOf (binL v) := rfl
    have l1 := (bin_bits (p := p) (v := v) (by omega) h).1
    have l2 : leI 0 (v : Int) = true := leI_iff.mpr (by omega)
    have l3 : PadOk (p : Int) = true := by
      have key : ∀ p : Nat, p < 17 → PadOk (p : Int) = true := by decide +kernel
      exact key p (by omega)
    have e2 := zfill_eq (p := p) (v := v) (by omega) h
    simp? [h0, c', fFmB, fZf, e1, l2, l3, e2, sOf_len, Int.toNat_natCast]
section
variable {g : FG} {b : FSt} {dead : List Nat} {n : Nat} {α β : Type}
theorem loop_foldI' (st : α → Rho × Mu) (w : β → W) (f : α → β → α) (I : Nat → α → Prop) : ∀ {xs : List β} {j : Nat} {a : α}, I j a → (∀ i a x, xs[i]? = some x → I (j + i) a → I (j + i + 1) (f a x) ∧ ∀ k, turn g b dead n (w x) (st a).1 (st a).2 k = k (st (f a x)).1 (st (f a x)).2) → fLoop g b dead n (xs.map w) (st a).1 (st a).2 = some (.nx (st (xs.foldl f a)).1 (st (xs.foldl f a)).2)
  | [], _, _, _, _ => rfl
  | x :: xs, j, a, h0, h => by
    obtain ⟨h1, h2⟩ := h 0 a x rfl h0
    rw [List.map_cons, fLoop, h2, loop_foldI' st w f I (j := j + 1) h1 (fun i a y hy hI => by
      have := h (i + 1) a y (by simpa using hy) (by rw [show j + (i + 1) = j + 1 + i by omega]; exact hI)
      rw [show j + (i + 1) = j + 1 + i by omega] at this
      exact this)]
    rfl
theorem loop_foldI (st : α → Rho × Mu) (w : β → W) (f : α → β → α) (I : Nat → α → Prop) {xs : List β} (a : α) {ρ : Rho} {μ : Mu} (hs : (ρ, μ) = st a) (h0 : I 0 a) (h : ∀ i a x, xs[i]? = some x → I i a → I (i + 1) (f a x) ∧ ∀ k, turn g b dead n (w x) (st a).1 (st a).2 k = k (st (f a x)).1 (st (f a x)).2) : fLoop g b dead n (xs.map w) ρ μ = some (.nx (st (xs.foldl f a)).1 (st (xs.foldl f a)).2) := by
  have e1 : ρ = (st a).1 := by rw [← hs]
  have e2 : μ = (st a).2 := by rw [← hs]
  rw [e1, e2]
  refine loop_foldI' st w f I h0 fun i a x hx hI => ?_
  have := h i a x hx (by rw [Nat.zero_add] at hI; exact hI)
  rw [Nat.zero_add]
  exact this
end
/-! ### codewords -/
def prD (q : Nat × Nat) : D := .tup [.int (q.1 : Nat), .int (q.2 : Nat)]
def strD (l : List Nat) : D := .v (.str (sOf l))
def cwT (q : Nat × Nat × List (List Nat)) (s : Nat × Nat) : Nat × Nat × List (List Nat) := (q.1 * 2 ^ (s.1 - q.2.1) + 1, s.1, q.2.2.set s.2 (bitL s.1 (q.1 * 2 ^ (s.1 - q.2.1))))
def ordW (lens : List Nat) : List (Nat × Nat) := (List.range 16).flatMap fun l => ((List.range lens.length).filter fun k => decide (lens.getD k 0 = l)).map fun k => (l, k)
def cw0 (lens : List Nat) : Nat × Nat × List (List Nat) := (0, 0, List.replicate lens.length [])
def cwN (lens : List Nat) : List (List Nat) := ((ordW lens).foldl cwT (cw0 lens)).2.2
theorem ordW_mem {lens : List Nat} {l k : Nat} : (l, k) ∈ ordW lens ↔ l < 16 ∧ k < lens.length ∧ lens.getD k 0 = l := by
  unfold ordW
  rw [List.mem_flatMap]
  constructor
  · rintro ⟨a, ha, h⟩
    obtain ⟨b, hb, e⟩ := List.mem_map.mp h
    cases e
    rw [List.mem_filter, List.mem_range, decide_eq_true_eq] at hb
    exact ⟨List.mem_range.mp ha, hb.1, hb.2⟩
  · rintro ⟨h1, h2, h3⟩
    refine ⟨l, List.mem_range.mpr h1, List.mem_map.mpr ⟨k, ?_, rfl⟩⟩
    rw [List.mem_filter, List.mem_range, decide_eq_true_eq]
    exact ⟨h2, h3⟩
def ltW (a b : Nat × Nat) : Prop := a.1 < b.1 ∨ (a.1 = b.1 ∧ a.2 < b.2)
theorem ordW_srt {lens : List Nat} : (ordW lens).Pairwise ltW := by
  unfold ordW
  refine List.pairwise_flatMap.mpr ⟨fun l _ => ?_, ?_⟩
  · rw [List.pairwise_map]
    exact (List.pairwise_lt_range.filter _).imp fun {a b} h => .inr ⟨rfl, h⟩
  · refine List.pairwise_lt_range.imp fun {a b} h x hx y hy => ?_
    obtain ⟨_, _, rfl⟩ := List.mem_map.mp hx
    obtain ⟨_, _, rfl⟩ := List.mem_map.mp hy
    exact .inl h
theorem ordW_perm {lens : List Nat} (h : ∀ x ∈ lens, x ≤ 15) : (lens.zipIdx).Perm (ordW lens) := by
  refine (List.perm_ext_iff_of_nodup ?_ ?_).mpr fun q => ?_
  · have e : (lens.zipIdx).map (·.2) = List.range lens.length := by
      refine List.ext_getElem? fun i => ?_
      by_cases hi : i < lens.length
      · rw [List.getElem?_map, List.getElem?_zipIdx, List.getElem?_eq_getElem hi, List.getElem?_range hi]
        simp
      · rw [List.getElem?_eq_none (by simp; omega), List.getElem?_eq_none (by simp; omega)]
    have n := List.nodup_range (n := lens.length)
    rw [← e] at n
    unfold List.Nodup at n ⊢
    rw [List.pairwise_map] at n
    exact n.imp fun {a b} hab e => hab (by rw [e])
  · exact ordW_srt.imp fun {a b} hab e => by
      subst e
      unfold ltW at hab
      omega
  · obtain ⟨l, k⟩ := q
    rw [ordW_mem, List.mem_zipIdx_iff_getElem?]
    dsimp only
    constructor
    · intro e
      have hk := (List.getElem?_eq_some_iff.mp e).1
      have e2 : lens.getD k 0 = l := by rw [List.getD_eq_getElem?_getD, e]; rfl
      have := h l (List.mem_of_getElem? e)
      exact ⟨by omega, hk, e2⟩
    · rintro ⟨_, h2, h3⟩
      rw [List.getElem?_eq_getElem h2, ← h3, getD_eq h2]
theorem cwT_len {q : Nat × Nat × List (List Nat)} {s : Nat × Nat} : (cwT q s).2.2.length = q.2.2.length := by
  unfold cwT
  dsimp only
  rw [List.length_set]
theorem cw_len {w : Nat × Nat × List (List Nat)} : ∀ {O : List (Nat × Nat)}, (O.foldl cwT w).2.2.length = w.2.2.length := by
  intro O
  induction O generalizing w with
  | nil => rfl
  | cons s O ih => rw [List.foldl_cons, ih, cwT_len]
theorem foldl_take {α β : Type} {f : β → α → β} {b : β} {l : List α} {i : Nat} {x : α} (h : l[i]? = some x) : (l.take (i + 1)).foldl f b = f ((l.take i).foldl f b) x := by
  rw [List.take_add_one, h, List.foldl_append]
  rfl
theorem sum_take {O : List (Nat × Nat)} {f : Nat × Nat → Nat} {i : Nat} {s : Nat × Nat} (h : O[i]? = some s) : sumL ((O.take i).map f) + f s ≤ sumL (O.map f) := by
  obtain ⟨hi, hs⟩ := List.getElem?_eq_some_iff.mp h
  have e : O = O.take i ++ s :: O.drop (i + 1) := by
    rw [← hs, ← List.drop_eq_getElem_cons hi, List.take_append_drop]
  have e2 : sumL (O.map f) = sumL ((O.take i).map f) + (f s + sumL ((O.drop (i + 1)).map f)) := by
    conv => lhs; rw [e]
    rw [List.map_append, sumL_app, List.map_cons, sumL_cons]
  omega
theorem cw_inv {O : List (Nat × Nat)} {w : List (List Nat)} (hs : O.Pairwise ltW) (hl : ∀ s ∈ O, s.1 ≤ 15) : ∀ i, i ≤ O.length → ((O.take i).foldl cwT (0, 0, w)).2.1 ≤ 15 ∧ ((O.take i).foldl cwT (0, 0, w)).1 * 2 ^ (15 - ((O.take i).foldl cwT (0, 0, w)).2.1) = sumL ((O.take i).map fun s => 2 ^ (15 - s.1)) ∧ ∀ (j : Nat) (s : Nat × Nat), i ≤ j → O[j]? = some s → ((O.take i).foldl cwT (0, 0, w)).2.1 ≤ s.1
  | 0, _ => ⟨Nat.zero_le _, by simp [sumL], fun _ _ _ _ => Nat.zero_le _⟩
  | i + 1, hi => by
    obtain ⟨a1, a2, a3⟩ := cw_inv hs hl i (by omega)
    obtain ⟨s, hsi⟩ : ∃ s, O[i]? = some s := ⟨O[i], List.getElem?_eq_getElem (by omega)⟩
    have b1 := a3 i s (Nat.le_refl _) hsi
    have b2 := hl s (List.mem_of_getElem? hsi)
    rw [foldl_take hsi]
    generalize (O.take i).foldl cwT (0, 0, w) = q at a1 a2 a3 b1
    refine ⟨b2, ?_, fun j s' hj hs' => ?_⟩
    · show (q.1 * 2 ^ (s.1 - q.2.1) + 1) * 2 ^ (15 - s.1) = _
      have e1 : (O.take (i + 1)).map (fun s => 2 ^ (15 - s.1)) = (O.take i).map (fun s => 2 ^ (15 - s.1)) ++ [2 ^ (15 - s.1)] := by
        rw [List.take_add_one, hsi, List.map_append]
        rfl
      rw [e1, sumL_app, ← a2, Nat.add_mul, Nat.one_mul, Nat.mul_assoc, ← Nat.pow_add, show s.1 - q.2.1 + (15 - s.1) = 15 - q.2.1 by omega]
      rfl
    · show s.1 ≤ s'.1
      have hj' := (List.getElem?_eq_some_iff.mp hs').1
      have := List.pairwise_iff_getElem.mp hs i j (by omega) hj' (by omega)
      rw [(List.getElem?_eq_some_iff.mp hsi).2, (List.getElem?_eq_some_iff.mp hs').2] at this
      unfold ltW at this
      omega
theorem cw_bound {O : List (Nat × Nat)} {w : List (List Nat)} (hs : O.Pairwise ltW) (hl : ∀ s ∈ O, s.1 ≤ 15) (hk : sumL (O.map fun s => 2 ^ (15 - s.1)) = 32768) {i : Nat} {s : Nat × Nat} (h : O[i]? = some s) : ((O.take i).foldl cwT (0, 0, w)).2.1 ≤ s.1 ∧ ((O.take i).foldl cwT (0, 0, w)).1 * 2 ^ (s.1 - ((O.take i).foldl cwT (0, 0, w)).2.1) < 2 ^ s.1 := by
  obtain ⟨a1, a2, a3⟩ := cw_inv (w := w) hs hl i (by have := (List.getElem?_eq_some_iff.mp h).1; omega)
  have b1 := a3 i s (Nat.le_refl _) h
  have b2 := hl s (List.mem_of_getElem? h)
  have b3 := sum_take (f := fun s => 2 ^ (15 - s.1)) h
  rw [hk, ← a2] at b3
  generalize (O.take i).foldl cwT (0, 0, w) = q at a1 b1 b3
  refine ⟨b1, ?_⟩
  have e : q.1 * 2 ^ (15 - q.2.1) = q.1 * 2 ^ (s.1 - q.2.1) * 2 ^ (15 - s.1) := by
    rw [Nat.mul_assoc, ← Nat.pow_add, show s.1 - q.2.1 + (15 - s.1) = 15 - q.2.1 by omega]
  have e2 : 32768 = 2 ^ s.1 * 2 ^ (15 - s.1) := by
    rw [← Nat.pow_add, show s.1 + (15 - s.1) = 15 by omega]
  rw [e] at b3
  have b4 : (q.1 * 2 ^ (s.1 - q.2.1) + 1) * 2 ^ (15 - s.1) ≤ 2 ^ s.1 * 2 ^ (15 - s.1) := by
    rw [Nat.add_mul, Nat.one_mul]
    omega
  have := Nat.le_of_mul_le_mul_right b4 (Nat.pow_pos (by decide))
  omega
theorem kr_ord {lens : List Nat} (h : ∀ x ∈ lens, x ≤ 15) (hk : sumL (lens.map fun x => 2 ^ (15 - x)) = 32768) : sumL ((ordW lens).map fun s => 2 ^ (15 - s.1)) = 32768 := by
  rw [← sumL_perm ((ordW_perm h).map _), ← hk]
  congr 1
  refine List.ext_getElem? fun i => ?_
  by_cases hi : i < lens.length
  · rw [List.getElem?_map, List.getElem?_zipIdx, List.getElem?_map, List.getElem?_eq_getElem hi]
    rfl
  · rw [List.getElem?_eq_none (by simp; omega), List.getElem?_eq_none (by simp; omega)]
theorem ord_le {lens : List Nat} : ∀ s ∈ ordW lens, s.1 ≤ 15 ∧ s.2 < lens.length := fun ⟨l, k⟩ hs => by
  obtain ⟨h1, h2, _⟩ := ordW_mem.mp hs
  exact ⟨by dsimp only; omega, h2⟩
/-! ### the program's codewords -/
theorem sort_ord {lens : List Nat} (h : ∀ x ∈ lens, x ≤ 15) {μ : Mu} : cSortL [.d (.lst ((lens.zipIdx).map prD))] μ = some (.ok (.d (.lst ((ordW lens).map prD))) μ) := by
  have k2 : ∀ l : List (Nat × Nat), keys2 (l.map prD) = some (l.map fun q => ((q.1 : Int), (q.2 : Int))) := by
    intro l
    induction l with
    | nil => rfl
    | cons a l ih =>
      show (keys2 (l.map prD)).map _ = _
      rw [ih]
      rfl
  have nd : ((ordW lens).map fun q : Nat × Nat => ((q.1 : Int), (q.2 : Int))).Nodup := by
    unfold List.Nodup
    rw [List.pairwise_map]
    exact ordW_srt.imp fun {a b} hab e => by
      unfold ltW at hab
      have e1 : (a.1 : Int) = b.1 := congrArg (·.1) e
      have e2 : (a.2 : Int) = b.2 := congrArg (·.2) e
      omega
  have p1 := ordW_perm h
  have nz : ((lens.zipIdx).map fun q : Nat × Nat => ((q.1 : Int), (q.2 : Int))).Nodup := (p1.map _).nodup_iff.mpr nd
  have es : sortL ((lens.zipIdx).map fun q => (prD q, ((q.1 : Int), (q.2 : Int)))) = (ordW lens).map fun q => (prD q, ((q.1 : Int), (q.2 : Int))) := by
    refine sortedL_uniq (sortL_perm.trans (p1.map _)) ?_ sortL_sorted ?_
    · rw [List.map_map]
      exact nd
    · refine List.pairwise_map.mpr (ordW_srt.imp fun {a b} hab => ?_)
      unfold ltW at hab
      unfold lexLe
      dsimp only
      omega
  unfold cSortL
  dsimp only
  rw [show seqOf μ (.d (.lst ((lens.zipIdx).map prD))) = some ((lens.zipIdx).map prD, false) from rfl]
  dsimp only
  rw [k2]
  dsimp only
  rw [if_pos ⟨rfl, nodupB_ok.mpr nz⟩, List.zip_map', es, List.map_map]
  rfl
theorem enums_nat {c : List Nat} : ∀ {k : Nat}, enums false k (natD c) = (c.zipIdx k).map fun q => pairW false false (.v (.int (q.2 : Nat))) (.int (q.1 : Nat)) := by
  induction c with
  | nil => intro k; rfl
  | cons a c ih =>
    intro k
    show _ :: enums false (k + 1) (natD c) = _
    rw [ih, List.zipIdx_cons]
    rfl
theorem codewords_eq {lens : List Nat} (hn : lens.length ≤ 16) (h : ∀ x ∈ lens, x ≤ 15) (hk : sumL (lens.map fun x => 2 ^ (15 - x)) = 32768) : F_codewords [.d (.lst (natD lens))] [] = some (.ok (.d (.tup ((cwN lens).map strD))) []) := by
  unfold F_codewords B_codewords B_codewords_1 B_codewords_2 B_codewords_3 B_codewords_4
  have hz : (leI 0 (lens.length : Int) && leI (lens.length : Int) 1000000) = true := by rw [Bool.and_eq_true, leI_iff, leI_iff]; omega
  have hr : (List.replicate lens.length [D.v (V.str (Str.ofString ""))]).flatten = (List.replicate lens.length []).map strD := by
    rw [List.map_replicate]
    show _ = List.replicate lens.length (D.v (V.str (sOf [])))
    rw [sOf_nil]
    induction lens.length with
    | zero => rfl
    | succ n ih => rw [List.replicate_succ, List.flatten_cons, ih, List.replicate_succ]; rfl
  have lz : ((lens.zipIdx 0).map fun q : Nat × Nat => pairW false false (.v (.int (q.2 : Nat))) (.int (q.1 : Nat))).length = lens.length := by simp
  have e0 := fun μ => sort_ord h (μ := μ)
  have lo : (ordW lens).length = lens.length := by rw [← (ordW_perm h).length_eq]; simp
  simp? [natD_len, hz, hr, enums_nat, lz, iE]
  rw [lcs_mapw (fun q : Nat × Nat => pairW false false (.v (.int (q.2 : Nat))) (.int (q.1 : Nat))) prD]
  · simp? [e0, List.length_map, lo]
    rw [show ((ordW lens).map prD).map (item false) = (ordW lens).map fun q => W.d (prD q) from by rw [List.map_map]; rfl]
    rw [loop_foldI (fun q : Nat × Nat × List (List Nat) => ([some (.d (.lst (natD lens))), some (.m 0), some (wi (q.1 : Nat)), some (wi (q.2.1 : Nat)), none, none], [.lst (q.2.2.map strD)])) (fun q : Nat × Nat => W.d (prD q)) cwT (fun i q => q = ((ordW lens).take i).foldl cwT (cw0 lens)) (cw0 lens) ?_ rfl ?_]
    · simp? [List.length_map]
      rfl
    · rfl
    · intro i q s hs hq
      have b := cw_bound (w := List.replicate lens.length []) ordW_srt (fun s hs => (ord_le s hs).1) (kr_ord h hk) hs
      have b0 := ord_le s (List.mem_of_getElem? hs)
      have lq : q.2.2.length = lens.length := by rw [hq, cw_len]; simp [cw0]
      have b : q.2.1 ≤ s.1 ∧ q.1 * 2 ^ (s.1 - q.2.1) < 2 ^ s.1 := by rw [hq]; exact b
      refine ⟨by rw [foldl_take hs, hq], fun k => ?_⟩
      obtain ⟨l, pl⟩ := s
      obtain ⟨v, bf, ws'⟩ := q
      dsimp only at b b0 lq
      have e1 := bits_of_eq (p := l) (by omega) b.2
      have e2 : (v : Int) * 2 ^ (l - bf) = ((v * 2 ^ (l - bf) : Nat) : Int) := by simp
      have e3 : (l : Int) - (bf : Nat) = ((l - bf : Nat) : Int) := by omega
      have e4 : ixN ws'.length (pl : Int) = some pl := DL.ixN_nat (by omega)
      unfold prD cwT
      dsimp only
      have hv : v ≤ v * 2 ^ (l - bf) := Nat.le_mul_of_pos_right _ (Nat.pow_pos (by decide))
      have hp : 2 ^ l ≤ 2 ^ 15 := Nat.pow_le_pow_right (by decide) b0.1
      have hv2 : v < 32768 := by have := b.2; omega
      generalize hV : v * 2 ^ (l - bf) = U at e1 e2
      simp? [e3, e2, e1, e4, Int.toNat_natCast, List.length_map]
      rw [List.map_set]
      rfl
  · rintro ⟨v, i⟩ _
    unfold prD
    simp? [pairW]
/-! ### the law's codewords -/
def repD (r : Option (Nat × Nat)) : D := match r with
  | none => .v .non
  | some q => prD q
def partD (rungs : List (Nat × Nat)) (r : Option (Nat × Nat)) : D := .tup [.tup (rungs.map prD), repD r]
def entL (rungs : List (Nat × Nat)) (r : Option (Nat × Nat)) : List (Nat × Nat) := rungs ++ r.toList
def inT (lens : List Nat) (l : Nat) (q : Nat × Nat × List (List Nat)) (k : Nat) : Nat × Nat × List (List Nat) := if lens.getD k 0 = l then cwT q (l, k) else q
def outT (lens : List Nat) (q : Nat × Nat × List (List Nat)) (l : Nat) : Nat × Nat × List (List Nat) := (List.range lens.length).foldl (inT lens l) q
theorem oEqD_int {a b : Int} {μ : Mu} : oEqD (wi a) (wi b) μ = some (.ok (wb (decide (a = b))) μ) := by
  rw [oEqD_pn (n := 0) (m := 0) pn_int pn_int (by decide) (by decide)]
  congr 3
  rw [Bool.eq_iff_iff, eqB_iff, decide_eq_true_eq]
  constructor
  · intro h; injection h with h; injection h
  · intro h; rw [h]
def InV (lens : List Nat) (l k : Nat) (q : Nat × Nat × List (List Nat)) : Prop := q.2.1 ≤ l ∧ q.2.2.length = lens.length ∧ q.1 ≤ (lens.length * l + k) * 2 ^ q.2.1
/-! ### tables -/
structure Tb (rungs : List (Nat × Nat)) (r : Option (Nat × Nat)) : Prop where
  n1 : 1 ≤ rungs.length
  n2 : rungs.length ≤ 15
  wd : ∀ q ∈ rungs, q.2 ≤ 16
  rw : ∀ q, r = some q → q.2 ≤ 5
  le : ∀ x ∈ (entL rungs r).map (·.1), x ≤ 15
  kr : sumL (((entL rungs r).map (·.1)).map fun x => 2 ^ (15 - x)) = 32768
theorem ent_len {rungs : List (Nat × Nat)} {r : Option (Nat × Nat)} : (entL rungs r).length ≤ rungs.length + 1 := by
  unfold entL
  rw [List.length_append]
  cases r <;> simp
def sS (rungs : List (Nat × Nat)) (i : Nat) : Nat := sumL ((rungs.take i).map fun q => 2 ^ q.2)
def stN (rungs : List (Nat × Nat)) (m : Nat) : List Nat := (List.range m).map (sS rungs)
theorem sS_succ {rungs : List (Nat × Nat)} {i : Nat} {q : Nat × Nat} (h : rungs[i]? = some q) : sS rungs (i + 1) = sS rungs i + 2 ^ q.2 := by
  unfold sS
  rw [List.take_add_one, h, List.map_append, sumL_app]
  rfl
theorem sS_mono {rungs : List (Nat × Nat)} {i j : Nat} (h : i ≤ j) : sS rungs i ≤ sS rungs j := by
  unfold sS
  obtain ⟨k, rfl⟩ := Nat.exists_eq_add_of_le h
  rw [List.take_add, List.map_append, sumL_app]
  exact Nat.le_add_right _ _
theorem sS_le {rungs : List (Nat × Nat)} (h : ∀ q ∈ rungs, q.2 ≤ 16) (i : Nat) : sS rungs i ≤ 65536 * rungs.length := by
  unfold sS
  have key : ∀ l : List (Nat × Nat), (∀ q ∈ l, q.2 ≤ 16) → sumL (l.map fun q => 2 ^ q.2) ≤ 65536 * l.length := by
    intro l
    induction l with
    | nil => intro _; exact Nat.zero_le _
    | cons a l ih =>
      intro h
      have h1 := ih fun q hq => h q (List.mem_cons_of_mem _ hq)
      have h2 : 2 ^ a.2 ≤ 2 ^ 16 := Nat.pow_le_pow_right (by decide) (h a List.mem_cons_self)
      rw [List.map_cons, sumL_cons, List.length_cons]
      omega
  have := key (rungs.take i) fun q hq => h q (List.mem_of_mem_take hq)
  have l := List.length_take_le i rungs
  have : 65536 * (rungs.take i).length ≤ 65536 * rungs.length := Nat.mul_le_mul_left _ (by rw [List.length_take]; omega)
  omega
theorem stN_succ {rungs : List (Nat × Nat)} {m : Nat} : stN rungs (m + 1) = stN rungs m ++ [sS rungs m] := by
  unfold stN
  rw [List.range_succ, List.map_append]
  rfl
theorem stN_len {rungs : List (Nat × Nat)} {m : Nat} : (stN rungs m).length = m := by simp [stN]
theorem stN_at {rungs : List (Nat × Nat)} {m i : Nat} (h : i < m) : atI (natD (stN rungs m)) (i : Int) = some (.int (sS rungs i : Nat)) := at_get (by
  unfold natD stN
  rw [List.map_map, List.getElem?_map, List.getElem?_range h]
  rfl)
theorem stN_last {rungs : List (Nat × Nat)} {m : Nat} : atI (natD (stN rungs (m + 1))) (-1) = some (.int (sS rungs m : Nat)) := by
  rw [stN_succ, natD_app]
  exact at_last'
theorem prD_items {l : List (Nat × Nat)} : (l.map prD).map (item false) = l.map fun q => W.d (prD q) := by
  rw [List.map_map]
  rfl
theorem shl_one {k : Nat} : (1 : Int) * 2 ^ k = ((2 ^ k : Nat) : Int) := by simp
theorem rung_starts_eq {rungs : List (Nat × Nat)} (h1 : 1 ≤ rungs.length) (h2 : rungs.length ≤ 1000) (hw : ∀ q ∈ rungs, q.2 ≤ 16) : F_rung_starts [.d (.tup (rungs.map prD))] [] = some (.ok (.d (.tup (natD (stN rungs rungs.length)))) []) := by
  unfold F_rung_starts B_rung_starts
  have ec : cutD (rungs.map prD) none (some (-1)) = (rungs.dropLast).map prD := by
    have e1 : HT.sIx (rungs.map prD).length (rungs.map prD).length (some (-1)) = rungs.length - 1 := by
      rw [List.length_map]
      exact sIx_neg (k := 1) h1 (by decide)
    have e2 : HT.sIx (rungs.map prD).length 0 none = 0 := HT.sIx_none _ _
    unfold cutD
    rw [e1, e2, List.drop_zero, Nat.sub_zero, List.dropLast_eq_take, List.map_take]
  simp? [ec, prD_items]
  rw [loop_foldI (fun i : Nat => ([some (.d (.tup (rungs.map prD))), some (.m 0), none, none], [.lst (natD (stN rungs (i + 1)))])) (fun q : Nat × Nat => W.d (prD q)) (fun i _ => i + 1) (fun i a => a = i) (0 : Nat) ?_ rfl ?_]
  · have e : (rungs.dropLast).foldl (fun i _ => i + 1) 0 = rungs.length - 1 := by
      have key : ∀ (l : List (Nat × Nat)) (a : Nat), l.foldl (fun i _ => i + 1) a = a + l.length := by
        intro l
        induction l with
        | nil => intro a; rfl
        | cons x l ih => intro a; rw [List.foldl_cons, ih, List.length_cons]; omega
      rw [key, Nat.zero_add, List.length_dropLast]
    rw [e, show rungs.length - 1 + 1 = rungs.length by omega]
    simp? [natD_len]
  · rfl
  · rintro i a ⟨l, w⟩ hq rfl
    refine ⟨rfl, fun k => ?_⟩
    have hlt := (List.getElem?_eq_some_iff.mp hq).1
    have hq : rungs[a]? = some (l, w) := by
      rw [List.getElem?_dropLast] at hq
      split at hq
      · exact hq
      · cases hq
    have e := sS_succ hq
    have hw1 := hw _ (List.mem_of_getElem? hq)
    dsimp only at hw1 e
    rw [List.length_dropLast] at hlt
    have e1 := stN_last (rungs := rungs) (m := a)
    rw [stN_succ (m := a + 1), natD_app, e]
    unfold prD
    simp? [e1, shl_one, natD_len, stN_len, Int.toNat_natCast]
    rfl
theorem alls_d : ∀ {ds : List D}, alls (ds.map W.d) = some ds
  | [] => rfl
  | d :: ds => by
    show (alls (ds.map W.d)).map (d :: ·) = _
    rw [alls_d]
    rfl
theorem entries_eq {rungs : List (Nat × Nat)} {r : Option (Nat × Nat)} {o : Bool} (h2 : rungs.length ≤ 1000) : F_entries_of [.d (sqD o (rungs.map prD)), .d (repD r)] [] = some (.ok (.d (.lst ((entL rungs r).map prD))) []) := by
  unfold F_entries_of B_entries_of
  cases r with
  | none =>
    cases o <;> simp only [sqD, Bool.false_eq_true, if_false, if_true] <;> simp? [repD, List.length_map] <;> simp [entL]
  | some q =>
    have ea : alls (List.map (item false ∘ prD) rungs ++ [W.d (prD q)]) = some ((entL rungs (some q)).map prD) := by
      have e : List.map (item false ∘ prD) rungs ++ [W.d (prD q)] = ((entL rungs (some q)).map prD).map W.d := by
        unfold entL
        rw [List.map_append, List.map_append, List.map_map]
        rfl
      rw [e, alls_d]
    unfold prD at ea
    cases o <;> simp only [sqD, Bool.false_eq_true, if_false, if_true]
    · unfold repD prD
      simp? [List.length_map, List.length_append, List.map_map]
      rw [ea]
      rfl
    · unfold repD prD
      simp? [List.length_map, List.length_append, List.map_map]
      rw [ea]
      rfl
theorem bools_true {α : Type} : ∀ {l : List α}, boolsOf (l.map fun _ => D.v (V.bl true)) = some (l.map fun _ => true)
  | [] => rfl
  | a :: l => by
    show (boolsOf (l.map fun _ => D.v (V.bl true))).map (true :: ·) = _
    rw [bools_true]
    rfl
theorem all_true {α : Type} {l : List α} : (l.map fun _ => true).all id = true := by
  induction l with
  | nil => rfl
  | cons a l ih => rw [List.map_cons, List.all_cons, ih]; rfl
theorem are_complete_eq {K : PySem.W.Frag} {lens : List Nat} (hn : lens.length ≤ 1000) (h : ∀ x ∈ lens, x ≤ 15) (hk : sumL (lens.map fun x => 2 ^ (15 - x)) = 32768) : F_are_complete K [.d (.lst (natD lens))] [] = some (.ok (wb true) []) := by
  unfold F_are_complete B_are_complete
  simp? [natD_items, natD_len, List.length_map]
  rw [lcs_mapw (fun n : Nat => wi (n : Nat)) (fun _ : Nat => D.v (V.bl true))]
  · simp? [natD_items, natD_len, List.length_map, bools_true, all_true]
    rw [lcs_mapw (fun n : Nat => wi (n : Nat)) (fun x : Nat => D.int ((2 ^ (15 - x) : Nat) : Int))]
    · have e : (lens.map fun x : Nat => D.int ((2 ^ (15 - x) : Nat) : Int)) = natD (lens.map fun x => 2 ^ (15 - x)) := by
        unfold natD
        rw [List.map_map]
        rfl
      rw [e]
      simp? [intsOf_nat, sum_nat, hk]
      rfl
    · intro x hx
      have hx := h x hx
      have e : (15 : Int) - (x : Nat) = ((15 - x : Nat) : Int) := by omega
      simp? [e, shl_one, Int.toNat_natCast]
  · intro x hx
    have hx := h x hx
    have c1 : (0 : Int) ≤ (x : Nat) := by omega
    have c2 : ((x : Nat) : Int) ≤ 15 := by omega
    simp? [c1, c2]
theorem can_be_table_eq {K : PySem.W.Frag} {rungs : List (Nat × Nat)} {r : Option (Nat × Nat)} (T : Tb rungs r) : F_can_be_table K [.d (.lst (rungs.map prD)), .d (repD r)] [] = some (.ok (wb true) []) := by
  have c1 : (1 : Int) ≤ (rungs.length : Nat) := by have := T.n1; omega
  have c2 : ((rungs.length : Nat) : Int) ≤ 15 := by have := T.n2; omega
  have n2 := T.n2
  have en := ent_len (rungs := rungs) (r := r)
  have e1 : F_entries_of [.d (.lst (rungs.map prD)), .d (repD r)] [] = some (.ok (.d (.lst ((entL rungs r).map prD))) []) := entries_eq (o := true) (by omega)
  have e2 := are_complete_eq (K := K) (lens := (entL rungs r).map (·.1)) (by rw [List.length_map]; omega) T.le T.kr
  have e3 : ((entL rungs r).map fun q : Nat × Nat => D.int (q.1 : Nat)) = natD ((entL rungs r).map (·.1)) := by
    unfold natD
    rw [List.map_map]
    rfl
  have last : B_can_be_table_3 K [some (.d (.lst (rungs.map prD))), some (.d (repD r)), none, none, none] [] = some (.rt (wb true) []) := by
    unfold B_can_be_table_3
    simp? [e1, prD_items, List.length_map]
    rw [lcs_mapw (fun q : Nat × Nat => W.d (prD q)) (fun q : Nat × Nat => D.int (q.1 : Nat))]
    · rw [e3]
      simp? [e2]
    · rintro ⟨l, w⟩ _
      unfold prD
      simp? [eq_self]
  have key : B_can_be_table K [some (.d (.lst (rungs.map prD))), some (.d (repD r)), none, none, none] [] = some (.rt (wb true) []) := by
    unfold B_can_be_table
    refine (fseq_nx (ρ' := [some (.d (.lst (rungs.map prD))), some (.d (repD r)), none, none, none]) (μ' := []) ?h1).trans ?n1
    case h1 => simp? [List.length_map, c1, c2]
    unfold B_can_be_table_1
    refine (fseq_nx (ρ' := [some (.d (.lst (rungs.map prD))), some (.d (repD r)), none, none, none]) (μ' := []) ?h2).trans ?n2
    case h2 =>
      simp? [List.length_map, prD_items]
      rw [lcs_mapw (fun q : Nat × Nat => W.d (prD q)) (fun _ : Nat × Nat => D.v (V.bl true))]
      · simp? [bools_true, all_true]
      · rintro ⟨l, w⟩ hq
        have := T.wd _ hq
        dsimp only at this
        have d1 : (0 : Int) ≤ (w : Nat) := by omega
        have d2 : ((w : Nat) : Int) ≤ 16 := by omega
        unfold prD
        simp? [d1, d2]
    unfold B_can_be_table_2
    refine (fseq_nx (ρ' := [some (.d (.lst (rungs.map prD))), some (.d (repD r)), none, none, none]) (μ' := []) ?h3).trans last
    case h3 =>
      cases r with
      | none => simp? [repD]
      | some q =>
        have := T.rw q rfl
        obtain ⟨l, w⟩ := q
        dsimp only at this
        have d1 : (0 : Int) ≤ (w : Nat) := by omega
        have d2 : ((w : Nat) : Int) ≤ 5 := by omega
        simp? [repD, prD, d1, d2]
  unfold F_can_be_table fRun
  rw [if_pos (show [W.d (D.lst (rungs.map prD)), W.d (repD r)].length = 2 from rfl)]
  show fin false 0 (B_can_be_table K [some (.d (.lst (rungs.map prD))), some (.d (repD r)), none, none, none] []) = _
  rw [key]
  rfl
/-! ### a table made -/
def tbF (rungs : List (Nat × Nat)) (r : Option (Nat × Nat)) : List (Str × D) := [("rungs", .tup (rungs.map prD)), ("repeat", repD r), ("starts", .tup (natD (stN rungs rungs.length))), ("total", .int (sS rungs rungs.length : Nat)), ("words", .tup ((cwN ((entL rungs r).map (·.1))).map strD))]
theorem Table_init_eq {K : PySem.W.Frag} {rungs : List (Nat × Nat)} {r : Option (Nat × Nat)} (T : Tb rungs r) : F_Table_init K [.m 0, .d (.lst (rungs.map prD)), .d (repD r)] [.ins (He.ga K "Table") []] = some (.ok wn [.ins (He.ga K "Table") (tbF rungs r)]) := by
  have n1 := T.n1
  have n2 := T.n2
  have en := ent_len (rungs := rungs) (r := r)
  have e0 := can_be_table_eq (K := K) T
  have e1 : F_entries_of [.d (.tup (rungs.map prD)), .d (repD r)] [] = some (.ok (.d (.lst ((entL rungs r).map prD))) []) := entries_eq (o := false) (by omega)
  have e2 := rung_starts_eq (rungs := rungs) n1 (by omega) T.wd
  have e3 : ((entL rungs r).map fun q : Nat × Nat => D.int (q.1 : Nat)) = natD ((entL rungs r).map (·.1)) := by
    unfold natD
    rw [List.map_map]
    rfl
  have e4 := codewords_eq (lens := (entL rungs r).map (·.1)) (by rw [List.length_map]; omega) T.le T.kr
  have e5 : atI (natD (stN rungs rungs.length)) (-1) = some (.int (sS rungs (rungs.length - 1) : Nat)) := by
    have := stN_last (rungs := rungs) (m := rungs.length - 1)
    rw [show rungs.length - 1 + 1 = rungs.length by omega] at this
    exact this
  obtain ⟨l0, ⟨al, aw⟩, eR⟩ : ∃ l0 a, rungs = l0 ++ [a] := ⟨rungs.dropLast, rungs.getLast (by intro e; rw [e] at n1; simp at n1), (List.dropLast_concat_getLast _).symm⟩
  have e6 : atI (rungs.map prD) (-1) = some (.tup [.int (al : Nat), .int (aw : Nat)]) := by
    rw [eR, List.map_append]
    exact at_last'
  have e7 : (sS rungs (rungs.length - 1) : Int) + 1 * 2 ^ aw = ((sS rungs rungs.length : Nat) : Int) := by
    have hq : rungs[rungs.length - 1]? = some (al, aw) := by
      rw [eR, List.length_append, List.length_singleton, Nat.add_sub_cancel, List.getElem?_append_right (Nat.le_refl _), Nat.sub_self]
      rfl
    have := sS_succ hq
    rw [show rungs.length - 1 + 1 = rungs.length by omega] at this
    rw [this, shl_one]
    simp
  have haw : aw ≤ 16 := T.wd (al, aw) (by rw [eR]; simp)
  unfold F_Table_init B_Table_init B_Table_init_1 B_Table_init_2 B_Table_init_3 B_Table_init_4 B_Table_init_5 tbF
  generalize hR : rungs.map prD = rD at e0 e1 e2 e6
  have hRl : rD.length = rungs.length := by rw [← hR, List.length_map]
  generalize repD r = rep at e0 e1
  simp? [e0, e1, e2, e5, e6, e7, hRl, Int.toNat_natCast, prD_items, List.length_map]
  rw [lcs_mapw (fun q : Nat × Nat => W.d (prD q)) (fun q : Nat × Nat => D.int (q.1 : Nat))]
  · rw [e3]
    simp? [e4]
  · rintro ⟨l, w⟩ _
    unfold prD
    simp? [eq_self]
/-! ### rungs -/
def tbO (K : PySem.W.Frag) (rungs : List (Nat × Nat)) (r : Option (Nat × Nat)) : D := .obj (He.ga K "Table") (tbF rungs r)
theorem ex_rung {rungs : List (Nat × Nat)} {x : Nat} : ∀ {n : Nat}, x < sS rungs n → ∃ i, i < n ∧ sS rungs i ≤ x ∧ x < sS rungs (i + 1)
  | 0, h => by simp [sS, sumL] at h
  | n + 1, h => by
    by_cases c : x < sS rungs n
    · obtain ⟨i, h1, h2⟩ := ex_rung c
      exact ⟨i, by omega, h2⟩
    · exact ⟨n, by omega, by omega, h⟩
def wordL (rungs : List (Nat × Nat)) (r : Option (Nat × Nat)) (i : Nat) : List Nat := (cwN ((entL rungs r).map (·.1))).getD i []
section
variable {rungs : List (Nat × Nat)} {r : Option (Nat × Nat)}
theorem rung_of_in {K : PySem.W.Frag} (T : Tb rungs r) {i x : Nat} (hi : i < rungs.length) (h1 : sS rungs i ≤ x) (h2 : x < sS rungs (i + 1)) : F_Table_rung_of K [.d (tbO K rungs r), wi (x : Nat)] [] = some (.ok (wi (i : Nat)) []) := by
  unfold F_Table_rung_of B_Table_rung_of B_Table_rung_of_1 B_Table_rung_of_2 B_Table_rung_of_3 tbO
  have hm := sS_mono (rungs := rungs) (show i + 1 ≤ rungs.length by omega)
  have c1 : (0 : Int) ≤ (x : Nat) := by omega
  have c2 : ((x : Nat) : Int) < (sS rungs rungs.length : Nat) := by omega
  have key := whl_by (t := (fTest (fOp (oI0 fun i j => .bl (decide (j < i))) (fOp oIx (fFld (He.ga K "Table") "starts" (fVar 0)) (fVar 2)) (fVar 1)))) (b := (fAug 2 (fun i j => i - j) (fC (.int 1)))) (dead := []) (n := 0) (m := rungs.length - 1 - i) (fun t => ([some (.d (.obj (He.ga K "Table") (tbF rungs r))), some (wi (x : Nat)), some (wi ((rungs.length - 1 - t : Nat) : Int))], [])) (fun t ht k => by
    have e1 := stN_at (rungs := rungs) (m := rungs.length) (i := rungs.length - 1 - t) (by omega)
    have hm2 := sS_mono (rungs := rungs) (show i + 1 ≤ rungs.length - 1 - t by omega)
    have c3 : ((x : Nat) : Int) < (sS rungs (rungs.length - 1 - t) : Nat) := by omega
    have e2 : ((rungs.length - 1 - t : Nat) : Int) - 1 = ((rungs.length - 1 - (t + 1) : Nat) : Int) := by omega
    unfold tbF
    generalize ((rungs.length - 1 - (t + 1) : Nat) : Int) = z at e2
    generalize ((rungs.length - 1 - t : Nat) : Int) = y at e1 e2
    generalize (sS rungs (rungs.length - 1 - t) : Nat) = S at e1 c3
    simp? [e1, c3, e2]) (fun k => by
    have e1 := stN_at (rungs := rungs) (m := rungs.length) (i := i) (by omega)
    have c3 : ¬ ((x : Nat) : Int) < (sS rungs i : Nat) := by omega
    rw [show rungs.length - 1 - (rungs.length - 1 - i) = i by omega]
    unfold tbF
    simp? [e1, c3]) (i := 0) (fuel := 4096) (Nat.zero_le _) (by have := T.n2; omega)
  have e0 : ((rungs.length : Nat) : Int) - 1 = ((rungs.length - 1 - 0 : Nat) : Int) := by omega
  rw [show rungs.length - 1 - (rungs.length - 1 - i) = i by omega] at key
  unfold tbF at key ⊢
  simp? [c1, c2, natD_len, stN_len, e0, fWhl]
  rw [key]
  simp? [eq_self]
/-! ### what the law tells of literals -/
def refD (x : Nat) : D := .tup [.v (.str "refused"), .int (x : Nat), .v (.bl true), .v (.bl true), .v (.bl false)]
end

/-! ### repetitions -/
section
variable {rungs : List (Nat × Nat)} {r : Option (Nat × Nat)}
/-! ### told -/
/-! ### serves -/
end
/-! ### a drawn table -/
theorem Rv_perm {n : Nat} {a b : List Nat} (h : Rv n a) (p : b.Perm a) : Rv n b := ⟨by rw [p.length_eq]; exact h.len, fun x hx => h.le x (p.mem_iff.mp hx), by rw [sumL_perm (p.map _)]; exact h.kr⟩
theorem Rv_unary {n : Nat} (h1 : 1 ≤ n) (h2 : n ≤ 16) : Rv n ((List.range n).map fun k => min (k + 1) (n - 1)) := by
  have key : ∀ n : Nat, n < 17 → 1 ≤ n → (∀ x ∈ (List.range n).map (fun k => min (k + 1) (n - 1)), x ≤ 15) ∧ sumL (((List.range n).map fun k => min (k + 1) (n - 1)).map fun x => 2 ^ (15 - x)) = 32768 := by decide +kernel
  obtain ⟨a, b⟩ := key n (by omega) h1
  exact ⟨by simp, a, b⟩
/-- widths drawn -/
def wdT (m : Int) (ls : List Nat) (q : DS × List (Nat × Nat)) (k : Nat) : DS × List (Nat × Nat) := (drawS q.1 m, q.2 ++ [(ls.getD k 0, (drawV q.1 m).toNat)])
theorem lcs_fold {g : FG} {t : FT} {e : FE} {vs : List Nat} {ρ : Rho} {n : Nat} {α β : Type} (st : α → Mu) (w : β → W) (d : α → β → D) (f : α → β → α) (I : Nat → α → Prop) : ∀ {xs : List β} {j : Nat} {a : α}, I j a → (∀ i a x, xs[i]? = some x → I (j + i) a → I (j + i + 1) (f a x) ∧ lcTurn g t e vs ρ n (w x) (st a) = some (some (d a x), st (f a x))) → ∃ ds, fLcL g t e vs ρ n (xs.map w) (st a) = some (ds, st (xs.foldl f a)) ∧ ∀ (p : α → List D), (∀ a x, p (f a x) = p a ++ [d a x]) → p (xs.foldl f a) = p a ++ ds
  | [], _, a, _, _ => ⟨[], rfl, fun p _ => by simp⟩
  | x :: xs, j, a, h0, h => by
    obtain ⟨h1, h2⟩ := h 0 a x rfl h0
    obtain ⟨ds, e1, e2⟩ := lcs_fold st w d f I (xs := xs) (j := j + 1) (a := f a x) h1 (fun i a y hy hI => by
      have := h (i + 1) a y (by simpa using hy) (by rw [show j + (i + 1) = j + 1 + i by omega]; exact hI)
      rw [show j + (i + 1) = j + 1 + i by omega] at this
      exact this)
    refine ⟨d a x :: ds, ?_, fun p hp => ?_⟩
    · rw [List.map_cons, lcL_cons h2, e1]
      rfl
    · rw [List.foldl_cons, e2 p hp, hp, List.append_assoc]
      rfl
theorem wd_len {m : Int} {ls : List Nat} {s : DS} : ∀ {n : Nat}, ((List.range n).foldl (wdT m ls) (s, [])).2.length = n
  | 0 => rfl
  | n + 1 => by
    rw [foldR]
    have := wd_len (m := m) (ls := ls) (s := s) (n := n)
    simp [wdT, this]
theorem wd_in {m : Int} (hm : 1 ≤ m) {ls : List Nat} {s : DS} : ∀ {n : Nat}, ((List.range n).foldl (wdT m ls) (s, [])).2.map (·.1) = (List.range n).map (fun k => ls.getD k 0) ∧ ∀ q ∈ ((List.range n).foldl (wdT m ls) (s, [])).2, (q.2 : Int) < m
  | 0 => ⟨rfl, fun q hq => by simp at hq⟩
  | n + 1 => by
    obtain ⟨a, b⟩ := wd_in hm (ls := ls) (s := s) (n := n)
    rw [foldR]
    generalize (List.range n).foldl (wdT m ls) (s, []) = q at a b
    have hd := drawV_lt (s := q.1) (m := m) hm
    refine ⟨?_, fun x hx => ?_⟩
    · show (q.2 ++ [_]).map _ = _
      rw [List.map_append, a, List.range_succ, List.map_append]
      rfl
    · rcases List.mem_append.mp (show x ∈ q.2 ++ [_] from hx) with hx | hx
      · exact b x hx
      · rw [List.mem_singleton] at hx
        subst hx
        show ((drawV q.1 m).toNat : Int) < m
        omega
theorem pick_of {s : DS} {l : List Int} {P : Int → Prop} (h0 : 1 ≤ l.length) (h : ∀ x ∈ l, P x) : ∃ v : Int, pickV s (l.map D.int) = .int v ∧ P v := by
  refine ⟨_, pickI h0, ?_⟩
  obtain ⟨a0, a1⟩ := drawV_lt (s := s) (m := l.length) (by omega)
  have hl : (drawV s l.length).toNat < l.length := by omega
  rw [List.getD_eq_getElem?_getD, List.getElem?_eq_getElem hl]
  exact h _ (List.getElem_mem _)
theorem range_getD' {l : List Nat} {n : Nat} (hl : l.length = n) : (List.range n).map (fun p => l.getD p 0) = l := by
  refine List.ext_getElem? fun i => ?_
  by_cases h : i < n
  · rw [List.getElem?_map, List.getElem?_range h, List.getElem?_eq_getElem (by omega)]
    show some (l.getD i 0) = _
    rw [getD_eq (by omega)]
  · rw [List.getElem?_eq_none (by simp; omega), List.getElem?_eq_none (by omega)]
theorem any_table_eq {s : DS} : ∃ (s' : DS) (rungs : List (Nat × Nat)) (r : Option (Nat × Nat)), Tb rungs r ∧ F_L_any_table [.m 0] [.lst s.l] = some (.ok (.d (partD rungs r)) [.lst s'.l]) := by
  -- many
  obtain ⟨p, hp, p1, p2⟩ := pick_of (s := s) (l := [15, 15, 2]) (P := fun x => 1 ≤ x ∧ x ≤ 15) (by simp) (by decide)
  have x1 : F_L_pick [.m 0, .d (.lst [D.v (V.int 15), D.v (V.int 15), D.v (V.int 2)])] [.lst s.l] = some (.ok (.d (pickV s [D.v (V.int 15), D.v (V.int 15), D.v (V.int 2)])) [.lst (drawS s 3).l]) := F_L_pick_eq (s := s) (by simp) (by simp)
  rw [show pickV s [D.v (V.int 15), D.v (V.int 15), D.v (V.int 2)] = .int p from hp] at x1
  generalize drawS s 3 = s1 at x1
  have d1 := drawV_lt (s := s1) (m := p) p1
  have x2 := F_L_draw_eq (s := s1) (m := p) p1 (by omega)
  obtain ⟨many, hm⟩ : ∃ many : Nat, 1 + drawV s1 p = (many : Nat) := ⟨(1 + drawV s1 p).toNat, by omega⟩
  generalize drawV s1 p = v1 at d1 x2 hm
  generalize drawS s1 p = s2 at x2
  have m1 : 1 ≤ many := by omega
  have m2 : many ≤ 15 := by omega
  -- again
  have d2 := drawV_lt (s := s2) (m := 2) (by omega)
  have x3 := F_L_draw_eq (s := s2) (m := 2) (by omega) (by omega)
  obtain ⟨again, ha⟩ := Int.eq_ofNat_of_zero_le d2.1
  rw [ha] at x3 d2
  generalize drawS s2 2 = s3 at x3
  have a2 : again ≤ 1 := by omega
  -- widest
  obtain ⟨wi', hw, w1, w2⟩ := pick_of (s := s3) (l := [17, 4, 1]) (P := fun x => 1 ≤ x ∧ x ≤ 17) (by simp) (by decide)
  have x4 : F_L_pick [.m 0, .d (.lst [D.v (V.int 17), D.v (V.int 4), D.v (V.int 1)])] [.lst s3.l] = some (.ok (.d (pickV s3 [D.v (V.int 17), D.v (V.int 4), D.v (V.int 1)])) [.lst (drawS s3 3).l]) := F_L_pick_eq (s := s3) (by simp) (by simp)
  rw [show pickV s3 [D.v (V.int 17), D.v (V.int 4), D.v (V.int 1)] = .int wi' from hw] at x4
  generalize drawS s3 3 = s4 at x4
  -- lengths
  obtain ⟨s5, l5, r5, x5⟩ := complete_eq (n := many + again) (by omega) (by omega) (s := s4)
  have hma : (many : Int) + (again : Nat) = ((many + again : Nat) : Int) := by omega
  have x6 := F_L_draw_eq (s := s5) (m := 5) (by omega) (by omega)
  obtain ⟨l6, r6, x7⟩ : ∃ l6, Rv (many + again) l6 ∧ (fIf (fTest (fOp oEq (fDef [true, false] FRL.F_L_draw [] (fCons (fVar 0) (fCons (fC (.int 5)) fNil))) (fC (.int 0)))) (fAsg (fLc false (iR1 (fCons (fOp (oAdd false) (fVar 1) (fVar 2)) fNil)) (gNm 5) fYes (fCB cMin2 (fCons (fOp (oAdd false) (fVar 5) (fC (.int 1))) (fCons (fOp oSub (fOp (oAdd false) (fVar 1) (fVar 2)) (fC (.int 1))) fNil))) [5]) (gNm 4)) fNext) [some (.m 0), some (wi (many : Nat)), some (wi (again : Nat)), some (wi wi'), some (.d (.lst (natD l5))), none, none] [.lst s5.l] = some (.nx [some (.m 0), some (wi (many : Nat)), some (wi (again : Nat)), some (wi wi'), some (.d (.lst (natD l6))), none, none] [.lst (drawS s5 5).l]) := by
    by_cases c : drawV s5 5 = 0
    · refine ⟨_, Rv_unary (n := many + again) (by omega) (by omega), ?_⟩
      simp? [x6, c, hma]
      rw [rints_nat, lcs_mapw (fun n : Nat => wi (n : Nat)) (fun k : Nat => D.int ((min (k + 1) (many + again - 1) : Nat) : Int))]
      · have e : (List.range (many + again)).map (fun k : Nat => D.int ((min (k + 1) (many + again - 1) : Nat) : Int)) = natD ((List.range (many + again)).map fun k => min (k + 1) (many + again - 1)) := by
          unfold natD
          rw [List.map_map]
          rfl
        rw [e]
        simp? [eq_self]
      · intro k hk
        have e : (if ((many + again : Nat) : Int) - 1 < (k : Nat) + 1 then ((many + again : Nat) : Int) - 1 else (k : Nat) + 1) = ((min (k + 1) (many + again - 1) : Nat) : Int) := by
          split <;> omega
        simp? [hma, e]
    · refine ⟨l5, r5, ?_⟩
      simp? [x6, c]
  generalize drawS s5 5 = s6 at x7
  obtain ⟨s7, l7, p7, x8⟩ := dealt_eq (l := l6) (by rw [r6.len]; omega) (s := s6)
  have r7 := Rv_perm r6 p7
  -- rungs
  obtain ⟨w3, w4⟩ := wd_in (m := wi') w1 (ls := l7) (s := s7) (n := many)
  have w5 := wd_len (m := wi') (ls := l7) (s := s7) (n := many)
  have x9 : (fAsg (fCB cTuple (fCons (fLc false (iR1 (fCons (fVar 1) fNil)) (gNm 5) fYes (fTup (fCons (fOp oIx (fVar 4) (fVar 5)) (fCons (fDef [true, false] FRL.F_L_draw [] (fCons (fVar 0) (fCons (fVar 3) fNil))) fNil))) [5]) fNil)) (gNm 6)) [some (.m 0), some (wi (many : Nat)), some (wi (again : Nat)), some (wi wi'), some (.d (.lst (natD l7))), none, none] [.lst s7.l] = some (.nx [some (.m 0), some (wi (many : Nat)), some (wi (again : Nat)), some (wi wi'), some (.d (.lst (natD l7))), none, some (.d (.tup (((List.range many).foldl (wdT wi' l7) (s7, [])).2.map prD)))] [.lst ((List.range many).foldl (wdT wi' l7) (s7, [])).1.l]) := by
    obtain ⟨ds, y1, y2⟩ := lcs_fold (g := gNm 5) (t := fYes) (e := (fTup (fCons (fOp oIx (fVar 4) (fVar 5)) (fCons (fDef [true, false] FRL.F_L_draw [] (fCons (fVar 0) (fCons (fVar 3) fNil))) fNil)))) (vs := [5]) (ρ := [some (.m 0), some (wi (many : Nat)), some (wi (again : Nat)), some (wi wi'), some (.d (.lst (natD l7))), none, none]) (n := 1) (fun q : DS × List (Nat × Nat) => [MO.lst q.1.l]) (fun n : Nat => wi (n : Nat)) (fun q k => prD (l7.getD k 0, (drawV q.1 wi').toNat)) (wdT wi' l7) (fun _ _ => True) (xs := List.range many) (j := 0) (a := (s7, [])) trivial (fun i q k hk _ => by
      have hk2 : k < many := by
        have := List.mem_of_getElem? hk
        exact List.mem_range.mp this
      refine ⟨trivial, ?_⟩
      have z1 : atI (natD l7) (k : Int) = some (.int (l7.getD k 0 : Nat)) := natD_getD (by rw [r7.len]; omega)
      have z2 := F_L_draw_eq (s := q.1) (m := wi') w1 (by omega)
      have z3 := drawV_lt (s := q.1) (m := wi') w1
      obtain ⟨j, hj⟩ := Int.eq_ofNat_of_zero_le z3.1
      unfold wdT prD
      dsimp only
      rw [hj] at z2 ⊢
      rw [Int.toNat_natCast]
      simp? [z1, z2])
    have y3 := y2 (fun q => q.2.map prD) (fun q k => by
      show (q.2 ++ [_]).map prD = _
      rw [List.map_append]
      rfl)
    rw [show (List.map prD ((s7, ([] : List (Nat × Nat))) : DS × List (Nat × Nat)).2) = [] from rfl, List.nil_append] at y3
    rw [y3]
    simp? [eq_self]
    rw [rints_nat, y1]
    simp? [eq_self]
  generalize (List.range many).foldl (wdT wi' l7) (s7, []) = q at w3 w4 w5 x9
  obtain ⟨s8, rungs⟩ := q
  dsimp only at w3 w4 w5 x9
  have st : ∀ (x : D) (s' : DS), B_L_any_table [some (.m 0), none, none, none, none, none, none] [.lst s.l] = some (.rt (.d x) [.lst s'.l]) → F_L_any_table [.m 0] [.lst s.l] = some (.ok (.d x) [.lst s'.l]) := by
    intro x s' h
    unfold F_L_any_table fRun
    rw [if_pos (show [W.m 0].length = 1 from rfl)]
    show fin false 1 (B_L_any_table [some (.m 0), none, none, none, none, none, none] [.lst s.l]) = _
    rw [h]
    rfl
  have go : ∀ r : Option So, B_L_any_table_7 [some (.m 0), some (wi (many : Nat)), some (wi (again : Nat)), some (wi wi'), some (.d (.lst (natD l7))), none, some (.d (.tup (rungs.map prD)))] [.lst s8.l] = r → B_L_any_table [some (.m 0), none, none, none, none, none, none] [.lst s.l] = r := by
    intro r h
    rw [← h]
    unfold B_L_any_table
    refine (fseq_nx (ρ' := [some (.m 0), some (wi (many : Nat)), none, none, none, none, none]) (μ' := [.lst s2.l]) ?h1).trans ?n1
    case h1 => simp? [x1, x2, hm]
    unfold B_L_any_table_1
    refine (fseq_nx (ρ' := [some (.m 0), some (wi (many : Nat)), some (wi (again : Nat)), none, none, none, none]) (μ' := [.lst s3.l]) ?h2).trans ?n2
    case h2 => simp? [x3]
    unfold B_L_any_table_2
    refine (fseq_nx (ρ' := [some (.m 0), some (wi (many : Nat)), some (wi (again : Nat)), some (wi wi'), none, none, none]) (μ' := [.lst s4.l]) ?h3).trans ?n3
    case h3 => simp? [x4]
    unfold B_L_any_table_3
    refine (fseq_nx (ρ' := [some (.m 0), some (wi (many : Nat)), some (wi (again : Nat)), some (wi wi'), some (.d (.lst (natD l5))), none, none]) (μ' := [.lst s5.l]) ?h4).trans ?n4
    case h4 => simp? [hma, x5]
    unfold B_L_any_table_4
    refine (fseq_nx x7).trans ?n5
    unfold B_L_any_table_5
    refine (fseq_nx (ρ' := [some (.m 0), some (wi (many : Nat)), some (wi (again : Nat)), some (wi wi'), some (.d (.lst (natD l7))), none, none]) (μ' := [.lst s7.l]) ?h6).trans ?n6
    case h6 => simp? [x8]
    unfold B_L_any_table_6
    exact fseq_nx x9
  have l7l := r7.len
  rcases (show again = 0 ∨ again = 1 by omega) with rfl | rfl
  · refine ⟨s8, rungs, none, ⟨by omega, by omega, fun q hq => by have := w4 q hq; omega, fun q h => by simp at h, ?_, ?_⟩, st _ _ (go _ ?_)⟩
    · have e : (entL rungs none).map (·.1) = l7 := by
        unfold entL
        rw [Option.toList_none, List.append_nil, w3]
        have := range_getD' (l := l7) (n := many) (by omega)
        exact this
      rw [e]
      exact r7.le
    · have e : (entL rungs none).map (·.1) = l7 := by
        unfold entL
        rw [Option.toList_none, List.append_nil, w3]
        exact range_getD' (l := l7) (n := many) (by omega)
      rw [e]
      exact r7.kr
    · unfold B_L_any_table_7 B_L_any_table_8 partD repD
      have c01 : ¬ (0 : Int) = 1 := by decide
      have c02 : ¬ ((0 : Nat) : Int) = 1 := by decide
      simp? [c01, c02]
  · have d6 := drawV_lt (s := s8) (m := 6) (by omega)
    have x10 := F_L_draw_eq (s := s8) (m := 6) (by omega) (by omega)
    obtain ⟨w, hw6⟩ := Int.eq_ofNat_of_zero_le d6.1
    rw [hw6] at x10 d6
    have z1 : atI (natD l7) (many : Int) = some (.int (l7.getD many 0 : Nat)) := natD_getD (by omega)
    have e : (entL rungs (some (l7.getD many 0, w))).map (·.1) = l7 := by
      unfold entL
      rw [Option.toList_some, List.map_append, w3]
      have := range_getD' (l := l7) (n := many + 1) (by omega)
      rw [List.range_succ, List.map_append] at this
      exact this
    refine ⟨drawS s8 6, rungs, some (l7.getD many 0, w), ⟨by omega, by omega, fun q hq => by have := w4 q hq; omega, fun q h => by cases h; show w ≤ 5; omega, by rw [e]; exact r7.le, by rw [e]; exact r7.kr⟩, st _ _ (go _ ?_)⟩
    unfold B_L_any_table_7 partD repD prD
    simp? [z1, x10]
/-! ### drawn numbers -/
section
variable {rungs : List (Nat × Nat)} {r : Option (Nat × Nat)}
def inM (m : Int) : Option D := if 1 ≤ m then (if m ≤ 65536 then some (D.int m) else none) else none
end
/-! ### the law -/
theorem if_yes {c : FT} {f g : FSt} {ρ : Rho} {μ : Mu} (h : c ρ μ = some (.ok true μ)) : fIf c f g ρ μ = f ρ μ := by
  unfold fIf
  rw [h]
  rfl
def cwD (rungs : List (Nat × Nat)) (r : Option (Nat × Nat)) : D := .lst ((cwN ((entL rungs r).map (·.1))).map strD)
section
variable {rungs : List (Nat × Nat)} {r : Option (Nat × Nat)}
end
theorem tb0 : Tb [(1, 0), (2, 1)] (some (2, 3)) where
  n1 := by decide
  n2 := by decide
  wd := by decide
  rw := fun q h => by cases h; decide
  le := by decide +kernel
  kr := by decide +kernel
end FRL

set_option Elab.async false
set_option linter.all false
/-! FR: break and continue. -/
namespace FR
open PySem L2 Evl DL
section
variable {X : Cx} {Wx : WX} {pos : Pos}
theorem b_break : BS X Wx (.Break pos) tBreak dBreak := ⟨ps_break, sim_break⟩
end
end FR

set_option Elab.async false
set_option linter.all false
/-! FR: int of a truth value. -/
namespace FR
open PySem L2 Evl DL
section
variable {X : Cx} {Wx : WX} {K : PySem.W.Frag} {ga : Str → Addr}
def dIntB : DC := fun xs μ P _ => (∃ i, xs = [wi i] ∧ P (wi i) μ) ∨ ∃ k, xs = [wb k] ∧ P (wi (if k then 1 else 0)) μ
theorem opc_intB : OpC K Wx (fun xs H Q => (∃ i, xs = [.int i] ∧ Q (.int i) H) ∨ ∃ k, xs = [.bl k] ∧ Q (.int (if k then 1 else 0)) H) dIntB := fun {w σ μ xs vs P R} ok hx h {Q} qn _ => by
  rcases h with ⟨i, rfl, p⟩ | ⟨k, rfl, p⟩
  · obtain ⟨v, rfl, av⟩ := wats1 hx
    cases av
    exact .inl ⟨i, rfl, qn.now ok .imm p⟩
  · obtain ⟨v, rfl, av⟩ := wats1 hx
    cases av
    exact .inr ⟨k, rfl, qn.now ok .imm p⟩
def cIntB : FC := fun xs μ => match xs with
  | [.d (.v (.int i))] => some (.ok (wi i) μ)
  | [.d (.v (.bl k))] => some (.ok (wi (if k = true then 1 else 0)) μ)
  | _ => none
theorem run_intB : RunC ga dIntB cIntB := fun xs μ => by
  unfold cIntB
  split
  · exact sat_ok fun P R p => .inl ⟨_, rfl, p⟩
  · exact sat_ok fun P R p => .inr ⟨_, rfl, p⟩
  · exact sat_none
end
end FR

set_option Elab.async false
set_option linter.all false
set_option maxRecDepth 100000
set_option maxHeartbeats 4000000
namespace FRL
open PySem L2 Evl DL FR
noncomputable section
def B_width_of : FSt := (fSeq (fAsg (fOp oSub (fVar 0) (fC (.int 1))) (gNm 1)) (fRet (fBits (fVar 1))))
def F_width_of : Fn := (fRun 1 2 false (B_width_of))
def B_Table_eq (K : PySem.W.Frag) : FSt := (fRet (fAndV (fCB (cIsiC (He.ga K "Table") [("tuple", false)] [(He.ga K "Table", true)]) (fCons (fVar 1) (fCons (fC (.ref (He.ga K "Table"))) fNil))) (fAndV (fOp oEqD (fFld (He.ga K "Table") "rungs" (fVar 0)) (fFld (He.ga K "Table") "rungs" (fVar 1))) (fOp oEqD (fFld (He.ga K "Table") "repeat" (fVar 0)) (fFld (He.ga K "Table") "repeat" (fVar 1))))))
def F_Table_eq (K : PySem.W.Frag) : Fn := (fRun 2 2 false (B_Table_eq K))
def B_ladder_widths_5 : FSt := (fFrz 2 (fRet (fVar 2)))
def B_ladder_widths_4 : FSt := (fSeq (fApp (fVar 2) (fDef [false] FRL.F_width_of [] (fCons (fOp oSub (fVar 1) (fVar 3)) fNil))) B_ladder_widths_5)
def B_ladder_widths_3 : FSt := (fSeq (fWhl 4096 (fAnd (fTest (fOp (oI0 fun i j => .bl (decide (i < j))) (fOp (oAdd false) (fVar 3) (fOp oShl (fC (.int 1)) (fVar 4))) (fVar 1))) (fTest (fOp (oI0 fun i j => .bl (decide (i < j))) (fCB cLen (fCons (fVar 2) fNil)) (fC (.int 11))))) (fSeq (fApp (fVar 2) (fVar 4)) (fSeq (fAug 3 (fun i j => i + j) (fOp oShl (fC (.int 1)) (fVar 4))) (fAug 4 (fun i j => i + j) (fC (.int 1))))) []) B_ladder_widths_4)
def B_ladder_widths_2 : FSt := (fSeq (fAsg (fVar 0) (gNm 4)) B_ladder_widths_3)
def B_ladder_widths_1 : FSt := (fSeq (fAsg (fC (.int 0)) (gNm 3)) B_ladder_widths_2)
def B_ladder_widths : FSt := (fSeq (fAsg (fLst true fNil) (gNm 2)) B_ladder_widths_1)
def F_ladder_widths : Fn := (fRun 2 5 false (B_ladder_widths))
def B_ladder_lengths : FSt := (fRet (fOp (oAdd false) (fLc false (iR1 (fCons (fOp oSub (fVar 0) (fC (.int 1))) fNil)) (gNm 1) fYes (fOp (oAdd false) (fVar 1) (fC (.int 1))) [1]) (fLst false (fCons (fOp oSub (fVar 0) (fC (.int 1))) fNil))))
def F_ladder_lengths : Fn := (fRun 1 2 false (B_ladder_lengths))
def B_Table_ladder_3 (K : PySem.W.Frag) : FSt := (fRet (fNew false (He.ga K "Table") [false, false] (FRL.F_Table_init K) [] (fCons (fLZ false (fCons (fOp (oAdd false) (fSl false (fVar 4) fNoPart (fPart (fC (.int 1)))) (fSl false (fVar 4) (fPart (fC (.int 2))) fNoPart)) (fCons (fVar 3) fNil))) (fCons (fTup (fCons (fOp oIx (fVar 4) (fC (.int 1))) (fCons (fC (.int 3)) fNil))) fNil))))
def B_Table_ladder_2 (K : PySem.W.Frag) : FSt := (fSeq (fAsg (fDef [false] FRL.F_ladder_lengths [] (fCons (fOp (oAdd false) (fCB cLen (fCons (fVar 3) fNil)) (fC (.int 1))) fNil)) (gNm 4)) (B_Table_ladder_3 K))
def B_Table_ladder_1 (K : PySem.W.Frag) : FSt := (fSeq (fIf (fNot (fTest (fVar 1))) (fRet (fNew false (He.ga K "Table") [false, false] (FRL.F_Table_init K) [.non] (fCons (fLZ false (fCons (fDef [false] FRL.F_ladder_lengths [] (fCons (fCB cLen (fCons (fVar 3) fNil)) fNil)) (fCons (fVar 3) fNil))) fNil))) fNext) (B_Table_ladder_2 K))
def B_Table_ladder (K : PySem.W.Frag) : FSt := (fSeq (fAsg (fDef [false, false] FRL.F_ladder_widths [] (fCons (fVar 0) (fCons (fVar 2) fNil))) (gNm 3)) (B_Table_ladder_1 K))
def F_Table_ladder (K : PySem.W.Frag) : Fn := (fRun 3 5 false (B_Table_ladder K))
def B_Table_preset (K : PySem.W.Frag) : FSt := (fRet (fDef [false, false, false] (FRL.F_Table_ladder K) [] (fCons (fOp oDiv (fVar 0) (fC (.int 2))) (fCons (fOp oEq (fOp oMod (fVar 0) (fC (.int 2))) (fC (.int 1))) (fCons (fVar 1) fNil)))))
def F_Table_preset (K : PySem.W.Frag) : Fn := (fRun 2 2 false (B_Table_preset K))
def B_L_wide : FSt := (fSeq (fFor (iR1 (fCons (fC (.int 17)) fNil)) (gNm 1) (fIf (fTest (fOp (oI0 fun i j => .bl (decide (j ≤ i))) (fOp oShl (fC (.int 1)) (fVar 1)) (fVar 0))) (fRet (fVar 1)) fNext) [1]) (fRet (fC (.int 17))))
def F_L_wide : Fn := (fRun 1 2 false (B_L_wide))
def B_L_ladder_7 : FSt := (fRet (fTup (fCons (fCB cTuple (fCons (fLc false (iR1 (fCons (fCB cLen (fCons (fVar 3) fNil)) fNil)) (gNm 5) fYes (fTup (fCons (fOp oIx (fVar 8) (fVar 5)) (fCons (fOp oIx (fVar 3) (fVar 5)) fNil))) [5]) fNil)) (fCons (fVar 9) fNil))))
def B_L_ladder_6 : FSt := (fSeq (fIf (fTest (fVar 1)) (fSeq (fAsg (fTup (fCons (fOp oIx (fVar 8) (fC (.int 1))) (fCons (fC (.int 3)) fNil))) (gNm 9)) (fAsg (fOp (oAdd false) (fSl false (fVar 8) fNoPart (fPart (fC (.int 1)))) (fSl false (fVar 8) (fPart (fC (.int 2))) fNoPart)) (gNm 8))) fNext) B_L_ladder_7)
def B_L_ladder_5 : FSt := (fSeq (fAsg (fC .non) (gNm 9)) B_L_ladder_6)
def B_L_ladder_4 : FSt := (fSeq (fAsg (fLc false (iR1 (fCons (fVar 7) fNil)) (gNm 5) fYes (fCB cMin2 (fCons (fOp (oAdd false) (fVar 5) (fC (.int 1))) (fCons (fOp oSub (fVar 7) (fC (.int 1))) fNil))) [5]) (gNm 8)) B_L_ladder_5)
def B_L_ladder_3 : FSt := (fFrz 3 (fSeq (fAsg (fOp (oAdd false) (fCB cLen (fCons (fVar 3) fNil)) (fCB cIntB (fCons (fVar 1) fNil))) (gNm 7)) B_L_ladder_4))
def B_L_ladder_2 : FSt := (fSeq (fFor (iR1 (fCons (fC (.int 12)) fNil)) (gNm 5) (fSeq (fAsg (fOp (oAdd false) (fVar 0) (fVar 5)) (gNm 6)) (fSeq (fIf (fOr (fTest (fOp (oI0 fun i j => .bl (decide (j ≤ i))) (fOp (oAdd false) (fVar 4) (fOp oShl (fC (.int 1)) (fVar 6))) (fVar 2))) (fTest (fOp oEq (fVar 5) (fC (.int 11))))) (fSeq (fApp (fVar 3) (fDef [false] FRL.F_L_wide [] (fCons (fOp oSub (fVar 2) (fVar 4)) fNil))) fBreak) fNext) (fSeq (fApp (fVar 3) (fVar 6)) (fAsg (fOp (oAdd false) (fVar 4) (fOp oShl (fC (.int 1)) (fVar 6))) (gNm 4))))) [6]) B_L_ladder_3)
def B_L_ladder_1 : FSt := (fSeq (fAsg (fC (.int 0)) (gNm 4)) B_L_ladder_2)
def B_L_ladder : FSt := (fSeq (fAsg (fLst true fNil) (gNm 3)) B_L_ladder_1)
def F_L_ladder : Fn := (fRun 3 10 false (B_L_ladder))
def B_L_token_text_3 : FSt := (fRet (fVar 3))
def B_L_token_text_2 : FSt := (fSeq (fFor (iFix (fVar 0)) (gNm 4) (fIf (fTest (fOp oEq (fOp oIx (fVar 4) (fC (.int 0))) (fC (.str "again")))) (fAsg (fOp (oAdd false) (fOp (oAdd false) (fVar 3) (fOp oIx (fVar 2) (fUn (o1U fun i => .int (-i)) (fC (.int 1))))) (fDef [false, false] FRL.F_L_bits [] (fCons (fOp oSub (fOp oIx (fVar 4) (fC (.int 1))) (fC (.int 1))) (fCons (fOp oIx (fOp oIx (fVar 1) (fC (.int 1))) (fC (.int 1))) fNil)))) (gNm 3)) (fSeq (fAsg (fC (.int 0)) (gNm 5)) (fFor (iR1 (fCons (fCB cLen (fCons (fOp oIx (fVar 1) (fC (.int 0))) fNil)) fNil)) (gNm 6) (fSeq (fAsg (fOp oShl (fC (.int 1)) (fOp oIx (fOp oIx (fOp oIx (fVar 1) (fC (.int 0))) (fVar 6)) (fC (.int 1)))) (gNm 7)) (fSeq (fIf (fTest (fChain (oI0 fun i j => .bl (decide (i ≤ j))) (oI0 fun i j => .bl (decide (i < j))) (fVar 5) (fOp oIx (fVar 4) (fC (.int 1))) (fOp (oAdd false) (fVar 5) (fVar 7)))) (fAsg (fOp (oAdd false) (fOp (oAdd false) (fVar 3) (fOp oIx (fVar 2) (fVar 6))) (fDef [false, false] FRL.F_L_bits [] (fCons (fOp oSub (fOp oIx (fVar 4) (fC (.int 1))) (fVar 5)) (fCons (fOp oIx (fOp oIx (fOp oIx (fVar 1) (fC (.int 0))) (fVar 6)) (fC (.int 1))) fNil)))) (gNm 3)) fNext) (fAsg (fOp (oAdd false) (fVar 5) (fVar 7)) (gNm 5)))) [6, 7]))) [4, 5, 6, 7]) B_L_token_text_3)
def B_L_token_text_1 : FSt := (fSeq (fAsg (fC (.str "")) (gNm 3)) B_L_token_text_2)
def B_L_token_text : FSt := (fSeq (fAsg (fDef [false] FRL.F_L_codewords [] (fCons (fVar 1) fNil)) (gNm 2)) B_L_token_text_1)
def F_L_token_text : Fn := (fRun 2 8 false (B_L_token_text))
end
local macro_rules | `(tactic| walk_at "ev") => `(tactic| simp (disch := omega) only [iET, fCon, fStar, oShr, cNn_r, cMax2, fExt, cAll, cAny, cLB, cSum, cLI, iRevR1, fRun, fin_nx, fin_rt, fin_xc, fin_none, fin_ite, cMul_l, cMul_r, cDiv_r, cPos_r, cPow_r, Nat.not_lt_zero,  fSeq, fIf, fAsg, fAug, oRep, oRepT, fRet, fRetN, fNext, fVar, fC, fOp, fUn, fTest, fAnd, fOr, fNot, fAndV, fOrV, fNotV, fIfE, fNil, fCons, fTup, fLst, fCB, fDef, fDrop, fSet, fApp, fTru, fChain, asB, cLen, cInt, cAbs, cMin2, cIsi, oI, oI0, oMul, oDiv, oMod, oPow, oSub, oEq, oNe, oIx, oAdd, oIsN, oIsB, oNotN, isN, o1U,
  bd_ok, bd_ex, bd_none, bd_ite, sb_nx, sb_rt, sb_bk, sb_ct, sb_xc, sb_none, sb_ite, eb_ok, eb_ex, eb_none, eb_ite, startW, fSl, fPart, fNoPart, fNew, fFld, fFldS, fFldA, fDefK, fSCount, cBool, iSigns, cIsiC, oEqO, mins, insOf, fMet, isO, fGet, fOwn, onlyO, fNeg, fOwnI, oRefl, oShl, cTuple, cList, lookup_lkS, lkS, Nat.reduceEqDiff, Nat.zero_ne_one, Nat.one_ne_zero, str_inj, String.reduceEq, List.isEmpty_nil, List.isEmpty_cons, putD, fRaise0, fRaiseO, fTryAs, fTryOnly, catch_nx, catch_rt, catch_bk, catch_ct, catch_xc, catch_none, catch_ite, allv_some, gone_nx, gone_rt, gone_bk, gone_ct, gone_ite, calm_nx, calm_rt, calm_bk, calm_ct, calm_ite, fXa, cIsX, truW, truth, eq_self, fFor, fFrz, frzW, turn, lt_nx, lt_ct, lt_bk, lt_rt, lt_xc, lt_none, lt_ite, lc, cutL, wipeW, inCutB, cutL, lcTurn, fLc, fYes, iFix, iFixL, iFixT, iR1, iR2, iR3, fixOf, fCallW, passI, passWs, passW, idx, noBb, backW, merge, List.getD_cons_zero, List.getD_cons_succ, Int.cast_ofNat_Int, Int.natCast_one, Int.natCast_zero, List.nodup_cons, List.nodup_nil, List.all_cons, List.all_nil, List.not_mem_nil, not_false_eq_true, and_true, true_and, List.mem_cons, or_false, false_or, gNm, gNl, gCs, gTp, Nat.not_lt_zero, rtW, newL, at_0, at_1, at_2, at_3, at_4, at_5, at_6, at_7, ixN_1_0, ixN_2_0, ixN_2_1, ixN_3_0, ixN_3_1, ixN_3_2, ixN_4_0, ixN_4_1, ixN_4_2, ixN_4_3, ixN_5_0, ixN_5_1, ixN_5_2, ixN_5_3, ixN_5_4, alls, allb, seqOf, lstOf, mlist, scal, tyN, tyW, kt_int_int, kt_int_bool, kt_int_str, kt_int_tuple, kt_int_list, kt_bool_int, kt_bool_bool, kt_bool_str, kt_bool_tuple, kt_bool_list, kt_str_int, kt_str_bool, kt_str_str, kt_str_tuple, kt_str_list, kt_tuple_int, kt_tuple_bool, kt_tuple_str, kt_tuple_tuple, kt_tuple_list, kt_list_int, kt_list_bool, kt_list_str, kt_list_tuple, kt_list_list, kt_NoneType_int, kt_NoneType_bool, kt_NoneType_str, kt_NoneType_tuple, kt_NoneType_list, item, dws,
  List.length_cons, List.length_nil, List.map_cons, List.map_nil, List.cons_append, List.nil_append, List.append_nil, List.getElem?_nil, List.getElem?_cons_zero, List.getElem?_cons_succ, List.set_cons_zero, List.set_cons_succ, List.replicate, Option.map_some, Nat.sub_self, Nat.reduceSub, Nat.reduceAdd, Nat.reduceLT, Nat.reduceLeDiff, decide_true, decide_false, if_true, if_false, ite_true, ite_false, Bool.false_eq_true, Bool.not_true, Bool.not_false, Bool.and_true, Bool.true_and, Bool.and_false, Bool.false_and, Bool.or_true, Bool.true_or, Bool.or_false, Bool.false_or, decide_eq_true_eq, Nat.zero_le, Nat.le_refl, Nat.lt_irrefl, List.take_succ_cons, List.take_zero, List.take_nil, V.int.injEq, V.bl.injEq, V.str.injEq, reduceCtorEq, smallB_le, r62_le, rgB_le, fLstR1, fLstR2, cSortI, isLst, rints_len, Int.toNat_natCast, beq_self_eq_true, Option.some.injEq])
local macro_rules | `(tactic| simp? [$ls,*]) => `(tactic| simp (maxSteps := 2000000) (disch := first | omega | assumption | (simp only [List.length_cons, List.length_nil, List.length_map]; omega)) only [iET, fCon, fStar, oShr, cNn_r, cMax2, fExt, cAll, cAny, cLB, cSum, cLI, iRevR1, fRun, fin_nx, fin_rt, fin_xc, fin_none, fin_ite, cMul_l, cMul_r, cDiv_r, cPos_r, cPow_r, Nat.not_lt_zero,  fSeq, fIf, fAsg, fAug, oRep, oRepT, fRet, fRetN, fNext, fVar, fC, fOp, fUn, fTest, fAnd, fOr, fNot, fAndV, fOrV, fNotV, fIfE, fNil, fCons, fTup, fLst, fCB, fDef, fDrop, fSet, fApp, fTru, fChain, asB, cLen, cInt, cAbs, cMin2, cIsi, oI, oI0, oMul, oDiv, oMod, oPow, oSub, oEq, oNe, oIx, oAdd, oIsN, oIsB, oNotN, isN, o1U,
  bd_ok, bd_ex, bd_none, bd_ite, sb_nx, sb_rt, sb_bk, sb_ct, sb_xc, sb_none, sb_ite, eb_ok, eb_ex, eb_none, eb_ite, startW, fSl, fPart, fNoPart, fNew, fFld, fFldS, fFldA, fDefK, fSCount, cBool, iSigns, cIsiC, oEqO, mins, insOf, fMet, isO, fGet, fOwn, onlyO, fNeg, fOwnI, oRefl, oShl, cTuple, cList, lookup_lkS, lkS, Nat.reduceEqDiff, Nat.zero_ne_one, Nat.one_ne_zero, str_inj, String.reduceEq, List.isEmpty_nil, List.isEmpty_cons, putD, fRaise0, fRaiseO, fTryAs, fTryOnly, catch_nx, catch_rt, catch_bk, catch_ct, catch_xc, catch_none, catch_ite, allv_some, gone_nx, gone_rt, gone_bk, gone_ct, gone_ite, calm_nx, calm_rt, calm_bk, calm_ct, calm_ite, fXa, cIsX, truW, truth, eq_self, fFor, fFrz, frzW, turn, lt_nx, lt_ct, lt_bk, lt_rt, lt_xc, lt_none, lt_ite, lc, cutL, wipeW, inCutB, cutL, lcTurn, fLc, fYes, iFix, iFixL, iFixT, iR1, iR2, iR3, fixOf, fCallW, passI, passWs, passW, idx, noBb, backW, merge, List.getD_cons_zero, List.getD_cons_succ, Int.cast_ofNat_Int, Int.natCast_one, Int.natCast_zero, List.nodup_cons, List.nodup_nil, List.all_cons, List.all_nil, List.not_mem_nil, not_false_eq_true, and_true, true_and, List.mem_cons, or_false, false_or, gNm, gNl, gCs, gTp, Nat.not_lt_zero, rtW, newL, at_0, at_1, at_2, at_3, at_4, at_5, at_6, at_7, ixN_1_0, ixN_2_0, ixN_2_1, ixN_3_0, ixN_3_1, ixN_3_2, ixN_4_0, ixN_4_1, ixN_4_2, ixN_4_3, ixN_5_0, ixN_5_1, ixN_5_2, ixN_5_3, ixN_5_4, alls, allb, seqOf, lstOf, mlist, scal, tyN, tyW, kt_int_int, kt_int_bool, kt_int_str, kt_int_tuple, kt_int_list, kt_bool_int, kt_bool_bool, kt_bool_str, kt_bool_tuple, kt_bool_list, kt_str_int, kt_str_bool, kt_str_str, kt_str_tuple, kt_str_list, kt_tuple_int, kt_tuple_bool, kt_tuple_str, kt_tuple_tuple, kt_tuple_list, kt_list_int, kt_list_bool, kt_list_str, kt_list_tuple, kt_list_list, kt_NoneType_int, kt_NoneType_bool, kt_NoneType_str, kt_NoneType_tuple, kt_NoneType_list, item, dws,
  List.length_cons, List.length_nil, List.map_cons, List.map_nil, List.cons_append, List.nil_append, List.append_nil, List.getElem?_nil, List.getElem?_cons_zero, List.getElem?_cons_succ, List.set_cons_zero, List.set_cons_succ, List.replicate, Option.map_some, Nat.sub_self, Nat.reduceSub, Nat.reduceAdd, Nat.reduceLT, Nat.reduceLeDiff, decide_true, decide_false, if_true, if_false, ite_true, ite_false, Bool.false_eq_true, Bool.not_true, Bool.not_false, Bool.and_true, Bool.true_and, Bool.and_false, Bool.false_and, Bool.or_true, Bool.true_or, Bool.or_false, Bool.false_or, decide_eq_true_eq, Nat.zero_le, Nat.le_refl, Nat.lt_irrefl, List.take_succ_cons, List.take_zero, List.take_nil, V.int.injEq, V.bl.injEq, V.str.injEq, reduceCtorEq, smallB_le, r62_le, rgB_le, fLstR1, fLstR2, cSortI, isLst, rints_len, Int.toNat_natCast, beq_self_eq_true, Option.some.injEq, $ls,*])
/-! ### widths -/
def widN (m : Nat) : Nat := if m ≤ 1 then 0 else (m - 1).log2 + 1
theorem wid_ge {m : Nat} : m ≤ 2 ^ widN m := by
  unfold widN
  split
  · rw [Nat.pow_zero]
    assumption
  · have := Nat.lt_log2_self (n := m - 1)
    omega
theorem wid_lt {m t : Nat} (h : t < widN m) : 2 ^ t < m := by
  unfold widN at h
  split at h
  · omega
  · have a := Nat.log2_self_le (n := m - 1) (by omega)
    have b := Nat.pow_le_pow_right (n := 2) (by decide) (show t ≤ (m - 1).log2 by omega)
    omega
theorem wid_16 {m : Nat} (h : m ≤ 65536) : widN m ≤ 16 := by
  by_cases c : widN m ≤ 16
  · exact c
  · have := wid_lt (m := m) (t := 16) (by omega)
    have e : (2 : Nat) ^ 16 = 65536 := by decide
    omega
theorem L_wide_eq {m : Nat} (h2 : m ≤ 65536) : F_L_wide [wi (m : Nat)] [] = some (.ok (wi (widN m : Nat)) []) := by
  have step : ∀ (t : Nat) (kk : Rho → Mu → Option So), t < 17 → turn (gNm 1) (fIf (fTest (fOp (oI0 fun i j => .bl (decide (j ≤ i))) (fOp oShl (fC (.int 1)) (fVar 1)) (fVar 0))) (fRet (fVar 1)) fNext) [1] 0 (wi (t : Nat)) [some (wi (m : Nat)), none] [] kk = if m ≤ 2 ^ t then some (.rt (wi (t : Nat)) []) else kk [some (wi (m : Nat)), none] [] := by
    intro t kk ht
    have e8 := shl_one (k := t)
    generalize 2 ^ t = P at e8 ⊢
    by_cases c : m ≤ P
    · have c' : ((m : Nat) : Int) ≤ (P : Nat) := by omega
      rw [if_pos c]
      simp? [e8, c', Int.toNat_natCast]
    · have c' : ¬ ((m : Nat) : Int) ≤ (P : Nat) := by omega
      rw [if_neg c]
      simp? [e8, c', Int.toNat_natCast]
  have hw := wid_16 h2
  unfold F_L_wide B_L_wide
  simp? [eq_self]
  rw [show rints 0 (Int.toNat 17) = (List.range 17).map (fun i : Nat => wi (i : Nat)) from rints_nat (n := 17)]
  rw [show fLoop _ _ _ _ ((List.range 17).map fun i : Nat => wi (i : Nat)) _ _ = some (.rt (wi (widN m : Nat)) []) from loop_exit (fun _ => ([some (wi (m : Nat)), none], [])) (j := 0) (m := widN m) (by rw [List.length_map, List.length_range]; omega) (fun t z ht hz k => ?_) (fun z hz k => ?_)]
  · simp? [eq_self]
  · rw [List.getElem?_map, List.getElem?_range (by omega)] at hz
    cases hz
    have := wid_lt ht
    exact (step t k (by omega)).trans (if_neg (by omega))
  · rw [List.getElem?_map, List.getElem?_range (by omega)] at hz
    cases hz
    exact (step (widN m) k (by omega)).trans (if_pos wid_ge)
/-! ### the widths of a ladder -/
def ldS (f : Nat) : Nat → Nat
  | 0 => 0
  | i + 1 => ldS f i + 2 ^ (f + i)
theorem ldN_ex (f m : Nat) : ∃ n, n ≤ 11 ∧ (n = 11 ∨ m ≤ ldS f (n + 1)) ∧ ∀ j, j < n → ldS f (j + 1) < m := by
  have key : ∀ k, k ≤ 11 → (∀ j, j < k → ldS f (j + 1) < m) ∨ ∃ n, n ≤ 11 ∧ (n = 11 ∨ m ≤ ldS f (n + 1)) ∧ ∀ j, j < n → ldS f (j + 1) < m := by
    intro k
    induction k with
    | zero => exact fun _ => .inl fun j h => by omega
    | succ k ih =>
      intro hk
      rcases ih (by omega) with h | h
      · by_cases c : ldS f (k + 1) < m
        · exact .inl fun j hj => by
            by_cases e : j = k
            · subst e
              exact c
            · exact h j (by omega)
        · exact .inr ⟨k, by omega, .inr (by omega), h⟩
      · exact .inr h
  rcases key 11 (Nat.le_refl _) with h | h
  · exact ⟨11, Nat.le_refl _, .inl rfl, h⟩
  · exact h
noncomputable def ldN (f m : Nat) : Nat := Classical.choose (ldN_ex f m)
theorem ldN_ok (f m : Nat) : ldN f m ≤ 11 ∧ (ldN f m = 11 ∨ m ≤ ldS f (ldN f m + 1)) ∧ ∀ j, j < ldN f m → ldS f (j + 1) < m := Classical.choose_spec (ldN_ex f m)
theorem ldN_lt {f m i : Nat} (h1 : 1 ≤ m) (hi : i ≤ ldN f m) : ldS f i < m := by
  cases i with
  | zero => exact h1
  | succ i => exact (ldN_ok f m).2.2 i (by omega)
theorem ldN_wide {f m i : Nat} (h2 : m ≤ 65536) (hi : i < ldN f m) : f + i ≤ 15 := by
  have a := (ldN_ok f m).2.2 i hi
  have b : 2 ^ (f + i) ≤ ldS f (i + 1) := Nat.le_add_left _ _
  by_cases c : f + i ≤ 15
  · exact c
  · have d := Nat.pow_le_pow_right (n := 2) (by decide) (show 16 ≤ f + i by omega)
    have e : (2 : Nat) ^ 16 = 65536 := by decide
    omega
noncomputable def ldW (f m : Nat) : List Nat := (List.range (ldN f m)).map (fun i => f + i) ++ [widN (m - ldS f (ldN f m))]
theorem ldW_len {f m : Nat} : (ldW f m).length = ldN f m + 1 := by
  unfold ldW
  rw [List.length_append, List.length_map, List.length_range]
  rfl
theorem natD_snoc {f i : Nat} : natD ((List.range i).map fun i => f + i) ++ [D.int ((f + i : Nat) : Int)] = natD ((List.range (i + 1)).map fun i => f + i) := by
  rw [List.range_succ, List.map_append, natD_app]
  rfl
theorem shl_add {s k : Nat} : ((s : Nat) : Int) + 1 * 2 ^ k = ((s + 2 ^ k : Nat) : Int) := by
  rw [shl_one]
  simp
/-! ### the lengths of a ladder -/
def unN (w : Nat) : List Nat := (List.range w).map fun k => min (k + 1) (w - 1)
theorem unN_len {w : Nat} : (unN w).length = w := by simp [unN]
def lnL (again : Bool) (w : Nat) : List Nat := if again = true then (unN (w + 1)).take 1 ++ (unN (w + 1)).drop 2 else unN w
def rpL (again : Bool) (w : Nat) : Option (Nat × Nat) := if again = true then some ((unN (w + 1)).getD 1 0, 3) else none
theorem lnL_ok {again : Bool} {w : Nat} (h1 : 1 ≤ w) (h2 : w ≤ 15) : (lnL again w).length = w ∧ (∀ x ∈ lnL again w ++ (rpL again w).toList.map (·.1), x ≤ 15) ∧ sumL ((lnL again w ++ (rpL again w).toList.map (·.1)).map fun x => 2 ^ (15 - x)) = 32768 := by
  have key : ∀ again : Bool, ∀ w : Nat, w < 16 → 1 ≤ w → (lnL again w).length = w ∧ (∀ x ∈ lnL again w ++ (rpL again w).toList.map (·.1), x ≤ 15) ∧ sumL ((lnL again w ++ (rpL again w).toList.map (·.1)).map fun x => 2 ^ (15 - x)) = 32768 := by decide +kernel
  exact key again w (by omega) h1
noncomputable def ldR (again : Bool) (f m : Nat) : List (Nat × Nat) := (lnL again (ldW f m).length).zip (ldW f m)
noncomputable def ldP (again : Bool) (f m : Nat) : Option (Nat × Nat) := rpL again (ldW f m).length
theorem ldR_len {again : Bool} {f m : Nat} : (ldR again f m).length = ldN f m + 1 := by
  have n1 := (ldN_ok f m).1
  unfold ldR
  rw [List.length_zip, (lnL_ok (by rw [ldW_len]; omega) (by rw [ldW_len]; omega)).1, Nat.min_self, ldW_len]
theorem ldR_snd {again : Bool} {f m : Nat} : (ldR again f m).map (·.2) = ldW f m := by
  have n1 := (ldN_ok f m).1
  unfold ldR
  exact List.map_snd_zip (by rw [(lnL_ok (by rw [ldW_len]; omega) (by rw [ldW_len]; omega)).1]; exact Nat.le_refl _)
theorem ldR_fst {again : Bool} {f m : Nat} : (ldR again f m).map (·.1) = lnL again (ldW f m).length := by
  have n1 := (ldN_ok f m).1
  unfold ldR
  exact List.map_fst_zip (by rw [(lnL_ok (by rw [ldW_len]; omega) (by rw [ldW_len]; omega)).1]; exact Nat.le_refl _)
theorem ld_ent {again : Bool} {f m : Nat} : (entL (ldR again f m) (ldP again f m)).map (·.1) = lnL again (ldW f m).length ++ (rpL again (ldW f m).length).toList.map (·.1) := by
  unfold entL ldP
  rw [List.map_append, ldR_fst]
theorem ld_tb {again : Bool} {f m : Nat} (h1 : 1 ≤ m) (h2 : m ≤ 65536) : Tb (ldR again f m) (ldP again f m) where
  n1 := by rw [ldR_len]; omega
  n2 := by rw [ldR_len]; have := (ldN_ok f m).1; omega
  wd := by
    intro q hq
    have : q.2 ∈ ldW f m := by rw [← ldR_snd (again := again)]; exact List.mem_map_of_mem hq
    unfold ldW at this
    rcases List.mem_append.mp this with h | h
    · obtain ⟨i, hi, e⟩ := List.mem_map.mp h
      have := ldN_wide (f := f) h2 (List.mem_range.mp hi)
      omega
    · rw [List.mem_singleton] at h
      rw [h]
      exact wid_16 (by omega)
  rw := by
    intro q hq
    unfold ldP rpL at hq
    split at hq
    · cases hq
      show (3 : Nat) ≤ 5
      decide
    · cases hq
  le := by
    have n1 := (ldN_ok f m).1
    rw [ld_ent]
    exact (lnL_ok (by rw [ldW_len]; omega) (by rw [ldW_len]; omega)).2.1
  kr := by
    have n1 := (ldN_ok f m).1
    rw [ld_ent]
    exact (lnL_ok (by rw [ldW_len]; omega) (by rw [ldW_len]; omega)).2.2
/-! ### tables of tuples -/
/-! ### a ladder of the law -/
theorem oEqD_n {a b : Nat} {μ : Mu} : oEqD (wi (a : Nat)) (wi (b : Nat)) μ = some (.ok (wb (decide (a = b))) μ) := by
  rw [oEqD_int]
  congr 3
  rw [Bool.eq_iff_iff, decide_eq_true_eq, decide_eq_true_eq]
  omega
theorem zip_range {a b : List Nat} (h : a.length = b.length) : (List.range b.length).map (fun k => prD (a.getD k 0, b.getD k 0)) = (a.zip b).map prD := by
  refine List.ext_getElem? fun i => ?_
  by_cases hi : i < b.length
  · rw [List.getElem?_map, List.getElem?_range hi, List.getElem?_map, List.getElem?_eq_getElem (by rw [List.length_zip]; omega), List.getElem_zip]
    show some (prD (a.getD i 0, b.getD i 0)) = some (prD (a[i], b[i]))
    rw [getD_eq (by omega), getD_eq hi]
  · rw [List.getElem?_eq_none (by simp; omega), List.getElem?_eq_none (by simp; omega)]
theorem un_law {v : Nat} {r : Rho} {g : FG} {t : FT} {e : FE} {vs : List Nat} {n : Nat} {μ : Mu} (h : ∀ k, k < v → lcTurn g t e vs r n (wi (k : Nat)) μ = some (some (D.int ((min (k + 1) (v - 1) : Nat) : Int)), μ)) : fLcL g t e vs r n (rints 0 (v : Nat)) μ = some (natD (unN v), μ) := by
  rw [rints_nat, lcs_mapw (fun n : Nat => wi (n : Nat)) (fun k : Nat => D.int ((min (k + 1) (v - 1) : Nat) : Int))]
  · unfold natD unN
    rw [List.map_map]
    rfl
  · intro k hk
    exact h k (List.mem_range.mp hk)
theorem ladder_end {a0 a2 s k w6 : D} {ws' : List Nat} {again : Bool} (h1 : 1 ≤ ws'.length) (h2 : ws'.length ≤ 15) : B_L_ladder_3 [some (.d a0), some (wb again), some (.d a2), some (.m 0), some (.d s), some (.d k), some (.d w6), none, none, none] [.lst (natD ws')] = some (.rt (.d (.tup [.tup (((lnL again ws'.length).zip ws').map prD), repD (rpL again ws'.length)])) [.dead]) := by
  obtain ⟨l1, _, _⟩ := lnL_ok (again := again) h1 h2
  have ez := zip_range (a := lnL again ws'.length) (b := ws') l1
  have hw : ∀ k, k < ws'.length → atI (natD ws') (k : Int) = some (D.int (ws'.getD k 0 : Nat)) := fun k hk => natD_getD hk
  have hl : ∀ k, k < ws'.length → atI (natD (lnL again ws'.length)) (k : Int) = some (D.int ((lnL again ws'.length).getD k 0 : Nat)) := fun k hk => natD_getD (by omega)
  have fin7 : ∀ {x rr : D}, B_L_ladder_7 [some (.d a0), some (wb again), some (.d a2), some (.d (.lst (natD ws'))), some (.d s), some (.d k), some (.d w6), some (.d x), some (.d (.lst (natD (lnL again ws'.length)))), some (.d rr)] [.dead] = some (.rt (.d (.tup [.tup (((lnL again ws'.length).zip ws').map prD), rr])) [.dead]) := by
    intro x rr
    unfold B_L_ladder_7
    simp? [natD_len]
    rw [rints_nat, lcs_mapw (fun n : Nat => wi (n : Nat)) (fun k : Nat => prD ((lnL again ws'.length).getD k 0, ws'.getD k 0))]
    · rw [ez]
      simp? [List.length_map, List.length_zip, l1, Nat.min_self]
    · intro k hk
      have hk := List.mem_range.mp hk
      have a := hw k hk
      have b := hl k hk
      unfold prD
      generalize natD (lnL again ws'.length) = L at b ⊢
      generalize natD ws' = M at a ⊢
      simp? [a, b]
  have un : ∀ v : Nat, 1 ≤ v → v ≤ 16 → ∀ {x3 : D} {k8 k9 : Option W}, fAsg (fLc false (iR1 (fCons (fVar 7) fNil)) (gNm 5) fYes (fCB cMin2 (fCons (fOp (oAdd false) (fVar 5) (fC (.int 1))) (fCons (fOp oSub (fVar 7) (fC (.int 1))) fNil))) [5]) (gNm 8) [some (.d a0), some (wb again), some (.d a2), some (.d x3), some (.d s), some (.d k), some (.d w6), some (wi (v : Nat)), k8, k9] [.dead] = some (.nx [some (.d a0), some (wb again), some (.d a2), some (.d x3), some (.d s), some (.d k), some (.d w6), some (wi (v : Nat)), some (.d (.lst (natD (unN v)))), k9] [.dead]) := by
    intro v hv1 hv2 x3 k8 k9
    simp? [Int.toNat_natCast]
    rw [un_law (v := v)]
    · simp? [natD_len, unN_len]
    · intro j hj
      have e : (if ((v : Nat) : Int) - 1 < ((j : Nat) : Int) + 1 then ((v : Nat) : Int) - 1 else ((j : Nat) : Int) + 1) = ((min (j + 1) (v - 1) : Nat) : Int) := by
        split <;> omega
      simp? [e]
  cases again with
  | false =>
    unfold B_L_ladder_3
    refine Eq.trans (b := fSeq (fAsg (fOp (oAdd false) (fCB cLen (fCons (fVar 3) fNil)) (fCB cIntB (fCons (fVar 1) fNil))) (gNm 7)) B_L_ladder_4 [some (.d a0), some (wb false), some (.d a2), some (.d (.lst (natD ws'))), some (.d s), some (.d k), some (.d w6), none, none, none] [.dead]) rfl ?_
    refine (fseq_nx (ρ' := [some (.d a0), some (wb false), some (.d a2), some (.d (.lst (natD ws'))), some (.d s), some (.d k), some (.d w6), some (wi (ws'.length : Nat)), none, none]) (μ' := [.dead]) ?h1).trans ?n1
    case h1 => simp? [natD_len, cIntB, Int.add_zero]
    unfold B_L_ladder_4
    refine (fseq_nx (un ws'.length h1 (by omega))).trans ?n2
    unfold B_L_ladder_5
    refine (fseq_nx (ρ' := [some (.d a0), some (wb false), some (.d a2), some (.d (.lst (natD ws'))), some (.d s), some (.d k), some (.d w6), some (wi (ws'.length : Nat)), some (.d (.lst (natD (unN ws'.length)))), some wn]) (μ' := [.dead]) ?h3).trans ?n3
    case h3 => simp? [eq_self]
    unfold B_L_ladder_6
    refine (fseq_nx (ρ' := [some (.d a0), some (wb false), some (.d a2), some (.d (.lst (natD ws'))), some (.d s), some (.d k), some (.d w6), some (wi (ws'.length : Nat)), some (.d (.lst (natD (unN ws'.length)))), some wn]) (μ' := [.dead]) ?h4).trans ?n4
    case h4 => simp? [eq_self]
    exact fin7
  | true =>
    unfold B_L_ladder_3
    refine Eq.trans (b := fSeq (fAsg (fOp (oAdd false) (fCB cLen (fCons (fVar 3) fNil)) (fCB cIntB (fCons (fVar 1) fNil))) (gNm 7)) B_L_ladder_4 [some (.d a0), some (wb true), some (.d a2), some (.d (.lst (natD ws'))), some (.d s), some (.d k), some (.d w6), none, none, none] [.dead]) rfl ?_
    have e1 : ((ws'.length : Nat) : Int) + 1 = ((ws'.length + 1 : Nat) : Int) := by omega
    refine (fseq_nx (ρ' := [some (.d a0), some (wb true), some (.d a2), some (.d (.lst (natD ws'))), some (.d s), some (.d k), some (.d w6), some (wi ((ws'.length + 1 : Nat) : Int)), none, none]) (μ' := [.dead]) ?m1).trans ?o1
    case m1 => simp? [natD_len, cIntB, e1]
    unfold B_L_ladder_4
    refine (fseq_nx (un (ws'.length + 1) (by omega) (by omega))).trans ?o2
    unfold B_L_ladder_5
    refine (fseq_nx (ρ' := [some (.d a0), some (wb true), some (.d a2), some (.d (.lst (natD ws'))), some (.d s), some (.d k), some (.d w6), some (wi ((ws'.length + 1 : Nat) : Int)), some (.d (.lst (natD (unN (ws'.length + 1))))), some wn]) (μ' := [.dead]) ?m3).trans ?o3
    case m3 => simp? [eq_self]
    unfold B_L_ladder_6
    have g1 : atI (natD (unN (ws'.length + 1))) 1 = some (D.int ((unN (ws'.length + 1)).getD 1 0 : Nat)) := natD_getD (i := 1) (by rw [unN_len]; omega)
    have s1 : cutD (natD (unN (ws'.length + 1))) none (some 1) = natD ((unN (ws'.length + 1)).take 1) := natD_to (i := 1) (by rw [unN_len]; omega)
    have s2 : cutD (natD (unN (ws'.length + 1))) (some 2) none = natD ((unN (ws'.length + 1)).drop 2) := natD_from (i := 2) (by rw [unN_len]; omega)
    have t1 : (natD ((unN (ws'.length + 1)).take 1)).length ≤ 1000 := by rw [natD_len, List.length_take, unN_len]; omega
    have t2 : (natD ((unN (ws'.length + 1)).drop 2)).length ≤ 1000 := by rw [natD_len, List.length_drop, unN_len]; omega
    refine (fseq_nx (ρ' := [some (.d a0), some (wb true), some (.d a2), some (.d (.lst (natD ws'))), some (.d s), some (.d k), some (.d w6), some (wi ((ws'.length + 1 : Nat) : Int)), some (.d (.lst (natD (lnL true ws'.length)))), some (.d (repD (rpL true ws'.length)))]) (μ' := [.dead]) ?m4).trans ?o4
    case m4 =>
      rw [show lnL true ws'.length = (unN (ws'.length + 1)).take 1 ++ (unN (ws'.length + 1)).drop 2 from rfl, natD_app, show repD (rpL true ws'.length) = .tup [.int ((unN (ws'.length + 1)).getD 1 0 : Nat), .int 3] from rfl]
      generalize natD ((unN (ws'.length + 1)).take 1) = u1 at *
      generalize natD ((unN (ws'.length + 1)).drop 2) = u2 at *
      generalize (unN (ws'.length + 1)).getD 1 0 = u3 at *
      generalize natD (unN (ws'.length + 1)) = u0 at g1 s1 s2 ⊢
      simp? [g1, s1, s2]
    exact fin7
def ldB : FSt := (fSeq (fAsg (fOp (oAdd false) (fVar 0) (fVar 5)) (gNm 6)) (fSeq (fIf (fOr (fTest (fOp (oI0 fun i j => .bl (decide (j ≤ i))) (fOp (oAdd false) (fVar 4) (fOp oShl (fC (.int 1)) (fVar 6))) (fVar 2))) (fTest (fOp oEq (fVar 5) (fC (.int 11))))) (fSeq (fApp (fVar 3) (fDef [false] F_L_wide [] (fCons (fOp oSub (fVar 2) (fVar 4)) fNil))) fBreak) fNext) (fSeq (fApp (fVar 3) (fVar 6)) (fAsg (fOp (oAdd false) (fVar 4) (fOp oShl (fC (.int 1)) (fVar 6))) (gNm 4)))))
theorem ladder_step {f m i : Nat} {a1 : D} {a5 : Option W} (hf : f ≤ 16) (h1 : 1 ≤ m) (h2 : m ≤ 65536) (hi : i < ldN f m) (kk : Rho → Mu → Option So) : turn (gNm 5) ldB [6] 1 (wi (i : Nat)) [some (wi (f : Nat)), some (.d a1), some (wi (m : Nat)), some (.m 0), some (wi (ldS f i : Nat)), a5, none, none, none, none] [.lst (natD ((List.range i).map fun i => f + i))] kk = kk [some (wi (f : Nat)), some (.d a1), some (wi (m : Nat)), some (.m 0), some (wi (ldS f (i + 1) : Nat)), some (wi (i : Nat)), none, none, none, none] [.lst (natD ((List.range (i + 1)).map fun i => f + i))] := by
  obtain ⟨n1, n2, n3⟩ := ldN_ok f m
  have b1 := n3 i hi
  have b2 := ldN_wide (f := f) h2 hi
  have e1 := shl_add (s := ldS f i) (k := f + i)
  rw [show ldS f i + 2 ^ (f + i) = ldS f (i + 1) from rfl] at e1
  have c1 : ¬ ((m : Nat) : Int) ≤ (ldS f (i + 1) : Nat) := by omega
  have c2 : (((i : Nat) : Int) = 11) = False := eq_false (by omega)
  have e2 := natD_snoc (f := f) (i := i)
  have e3 : ((f : Nat) : Int) + (i : Nat) = ((f + i : Nat) : Int) := by omega
  have l1 : (natD ((List.range i).map fun i => f + i)).length = i := by rw [natD_len, List.length_map, List.length_range]
  have hS : ldS f i < 65536 := by have := ldN_lt (f := f) (i := i) h1 (by omega); omega
  generalize natD ((List.range (i + 1)).map fun i => f + i) = L' at e2 ⊢
  generalize natD ((List.range i).map fun i => f + i) = L at e2 l1 ⊢
  generalize ldS f (i + 1) = S' at e1 c1 ⊢
  generalize ldS f i = S at e1 hS ⊢
  generalize f + i = w at e1 e2 e3 b2 ⊢
  unfold ldB
  simp? [e1, c1, c2, l1, e2, e3, Int.toNat_natCast]
theorem ladder_stop {f m : Nat} {a1 : D} {a5 : Option W} (hf : f ≤ 16) (h1 : 1 ≤ m) (h2 : m ≤ 65536) (kk : Rho → Mu → Option So) : turn (gNm 5) ldB [6] 1 (wi (ldN f m : Nat)) [some (wi (f : Nat)), some (.d a1), some (wi (m : Nat)), some (.m 0), some (wi (ldS f (ldN f m) : Nat)), a5, none, none, none, none] [.lst (natD ((List.range (ldN f m)).map fun i => f + i))] kk = some (.nx [some (wi (f : Nat)), some (.d a1), some (wi (m : Nat)), some (.m 0), some (wi (ldS f (ldN f m) : Nat)), some (wi (ldN f m : Nat)), some (wi ((f + ldN f m : Nat) : Int)), none, none, none] [.lst (natD (ldW f m))]) := by
  obtain ⟨n1, n2, n3⟩ := ldN_ok f m
  have hl := ldN_lt (f := f) h1 (Nat.le_refl _)
  have hw := L_wide_eq (m := m - ldS f (ldN f m)) (by omega)
  have e1 := shl_add (s := ldS f (ldN f m)) (k := f + ldN f m)
  rw [show ldS f (ldN f m) + 2 ^ (f + ldN f m) = ldS f (ldN f m + 1) from rfl] at e1
  have e2 : natD ((List.range (ldN f m)).map fun i => f + i) ++ [D.int ((widN (m - ldS f (ldN f m)) : Nat) : Int)] = natD (ldW f m) := by
    unfold ldW
    rw [natD_app]
    rfl
  have e3 : ((f : Nat) : Int) + (ldN f m : Nat) = ((f + ldN f m : Nat) : Int) := by omega
  have e5 : ((m : Nat) : Int) - (ldS f (ldN f m) : Nat) = ((m - ldS f (ldN f m) : Nat) : Int) := by omega
  have l1 : (natD ((List.range (ldN f m)).map fun i => f + i)).length = ldN f m := by rw [natD_len, List.length_map, List.length_range]
  have a3 : ((m : Nat) : Int) ≤ (ldS f (ldN f m + 1) : Nat) ∨ ((ldN f m : Nat) : Int) = 11 := by omega
  have b2 : f + ldN f m ≤ 30 := by omega
  generalize natD (ldW f m) = L' at e2 ⊢
  generalize natD ((List.range (ldN f m)).map fun i => f + i) = L at e2 l1 ⊢
  generalize widN (m - ldS f (ldN f m)) = wd at e2 hw
  generalize m - ldS f (ldN f m) = r at e5 hw
  generalize ldS f (ldN f m + 1) = S' at e1 a3
  generalize ldS f (ldN f m) = S at e1 e5 hl ⊢
  generalize f + ldN f m = w at e1 e3 b2
  generalize ldN f m = N at e3 l1 a3 n1 ⊢
  unfold ldB
  by_cases c : ((m : Nat) : Int) ≤ (S' : Nat)
  · simp? [e1, c, l1, e2, e3, e5, hw, Int.toNat_natCast, fBreak]
  · have c2 : (((N : Nat) : Int) = 11) = True := eq_true (by omega)
    simp? [e1, c, c2, l1, e2, e3, e5, hw, Int.toNat_natCast, fBreak]
theorem L_ladder_eq {f m : Nat} {again : Bool} (hf : f ≤ 16) (h1 : 1 ≤ m) (h2 : m ≤ 65536) : F_L_ladder [wi (f : Nat), wb again, wi (m : Nat)] [] = some (.ok (.d (partD (ldR again f m) (ldP again f m))) []) := by
  have n1 := (ldN_ok f m).1
  have lp : fFor (iR1 (fCons (fC (.int 12)) fNil)) (gNm 5) ldB [6] [some (wi (f : Nat)), some (wb again), some (wi (m : Nat)), some (.m 0), some (wi 0), none, none, none, none, none] [.lst []] = some (.nx [some (wi (f : Nat)), some (wb again), some (wi (m : Nat)), some (.m 0), some (wi (ldS f (ldN f m) : Nat)), some (wi (ldN f m : Nat)), some (wi ((f + ldN f m : Nat) : Int)), none, none, none] [.lst (natD (ldW f m))]) := by
    have st := loop_exit (g := gNm 5) (b := ldB) (dead := [6]) (n := 1) (r := some (.nx [some (wi (f : Nat)), some (wb again), some (wi (m : Nat)), some (.m 0), some (wi (ldS f (ldN f m) : Nat)), some (wi (ldN f m : Nat)), some (wi ((f + ldN f m : Nat) : Int)), none, none, none] [.lst (natD (ldW f m))])) (fun i => ([some (wi (f : Nat)), some (wb again), some (wi (m : Nat)), some (.m 0), some (wi (ldS f i : Nat)), (match i with | 0 => none | j + 1 => some (wi (j : Nat))), none, none, none, none], [.lst (natD ((List.range i).map fun i => f + i))])) (xs := (List.range 12).map fun i : Nat => wi (i : Nat)) (j := 0) (m := ldN f m) (by rw [List.length_map, List.length_range]; omega) (fun i z hi hz k => by
      rw [List.getElem?_map, List.getElem?_range (by omega)] at hz
      cases hz
      rw [Nat.zero_add]
      exact ladder_step hf h1 h2 hi k) (fun z hz k => by
      rw [List.getElem?_map, List.getElem?_range (by omega)] at hz
      cases hz
      rw [Nat.zero_add]
      exact ladder_stop hf h1 h2 k)
    simp? [eq_self]
    rw [show rints 0 (Int.toNat 12) = (List.range 12).map (fun i : Nat => wi (i : Nat)) from rints_nat (n := 12)]
    exact st
  have le := ladder_end (a0 := .int (f : Nat)) (a2 := .int (m : Nat)) (s := .int (ldS f (ldN f m) : Nat)) (k := .int (ldN f m : Nat)) (w6 := .int ((f + ldN f m : Nat) : Int)) (again := again) (ws' := ldW f m) (by rw [ldW_len]; omega) (by rw [ldW_len]; omega)
  unfold F_L_ladder fRun
  rw [if_pos (show [wi (f : Nat), wb again, wi (m : Nat)].length = 3 from rfl)]
  have key : B_L_ladder [some (wi (f : Nat)), some (wb again), some (wi (m : Nat)), none, none, none, none, none, none, none] [] = some (.rt (.d (.tup [.tup (((lnL again (ldW f m).length).zip (ldW f m)).map prD), repD (rpL again (ldW f m).length)])) [.dead]) := by
    unfold B_L_ladder
    refine (fseq_nx (ρ' := [some (wi (f : Nat)), some (wb again), some (wi (m : Nat)), some (.m 0), none, none, none, none, none, none]) (μ' := [.lst []]) ?h1).trans ?n1
    case h1 => simp? [eq_self]
    unfold B_L_ladder_1
    refine (fseq_nx (ρ' := [some (wi (f : Nat)), some (wb again), some (wi (m : Nat)), some (.m 0), some (wi 0), none, none, none, none, none]) (μ' := [.lst []]) ?h2).trans ?n2
    case h2 => simp? [eq_self]
    unfold B_L_ladder_2
    exact (fseq_nx lp).trans le
  show fin false 0 (B_L_ladder [some (wi (f : Nat)), some (wb again), some (wi (m : Nat)), none, none, none, none, none, none, none] []) = _
  rw [key]
  rfl
/-! ### tables of ladders -/
/-! ### what the law asks of a table -/
theorem if_no {c : FT} {f g : FSt} {ρ : Rho} {μ : Mu} (h : c ρ μ = some (.ok false μ)) : fIf c f g ρ μ = g ρ μ := by
  unfold fIf
  rw [h]
  rfl
section
variable {rungs : List (Nat × Nat)} {r : Option (Nat × Nat)}
def ttB : FSt := (fSeq (fAsg (fOp oShl (fC (.int 1)) (fOp oIx (fOp oIx (fOp oIx (fVar 1) (fC (.int 0))) (fVar 6)) (fC (.int 1)))) (gNm 7)) (fSeq (fIf (fTest (fChain (oI0 fun i j => .bl (decide (i ≤ j))) (oI0 fun i j => .bl (decide (i < j))) (fVar 5) (fOp oIx (fVar 4) (fC (.int 1))) (fOp (oAdd false) (fVar 5) (fVar 7)))) (fAsg (fOp (oAdd false) (fOp (oAdd false) (fVar 3) (fOp oIx (fVar 2) (fVar 6))) (fDef [false, false] F_L_bits [] (fCons (fOp oSub (fOp oIx (fVar 4) (fC (.int 1))) (fVar 5)) (fCons (fOp oIx (fOp oIx (fOp oIx (fVar 1) (fC (.int 0))) (fVar 6)) (fC (.int 1))) fNil)))) (gNm 3)) fNext) (fAsg (fOp (oAdd false) (fVar 5) (fVar 7)) (gNm 5))))
end
section
variable {rungs : List (Nat × Nat)} {r : Option (Nat × Nat)}
end
theorem same_n {x : Nat} : F_L_same 8 [wi (x : Nat), wi (x : Nat)] [] = some (.ok (wb true) []) := same_eq (n := 7) (a := D.int (x : Nat)) (by simp [pl]) false false
theorem sS_total {rungs : List (Nat × Nat)} {r : Option (Nat × Nat)} (T : Tb rungs r) : sS rungs rungs.length ≤ 10000000 := by
  have a := sS_le (rungs := rungs) T.wd rungs.length
  have b := T.n2
  omega
theorem pl_tup {n : Nat} {ds : List D} (h : ds.length ≤ 1000000) (h2 : ∀ d ∈ ds, pl n d) : pl (n + 1) (.tup ds) := by
  simp only [pl]
  exact ⟨h, h2⟩
end FRL

set_option Elab.async false
set_option linter.all false
set_option maxRecDepth 100000
set_option maxHeartbeats 4000000
namespace K29
open PySem L2 Evl DL FR
noncomputable section
def top (i : Nat) : Stmt := PySem.Challenge.pw_keptpictures_k29_whole_least_parse.main.body.getD i (.Pass ⟨0, 0, 0, 0⟩)
def exB (K : PySem.W.Frag) : Bool := ownB K (He.ga K "Table") && (oexB K (He.ga K "NoRung") && (cintB K (He.ga K "Table") "LONGEST" 15 && ((PySem.W.findIn K (.type "int") "__mul__").isSome && ((PySem.W.findIn K (.type "int") "__rmul__").isSome))))
abbrev s_rung_starts : Stmt := top 17
abbrev N_rung_starts : List Str := ["rungs", "starts", "_", "width"]
abbrev s_bits_of : Stmt := top 7
abbrev N_bits_of : List Str := ["number", "places", "digits"]
abbrev s_codewords : Stmt := top 18
abbrev N_codewords : List Str := ["lengths", "words", "value", "before", "length", "place"]
abbrev s_are_complete : Stmt := top 16
abbrev N_are_complete : List Str := ["lengths", "length"]
abbrev s_entries_of : Stmt := top 14
abbrev N_entries_of : List Str := ["rungs", "repeat"]
abbrev s_can_be_table : Stmt := top 15
abbrev N_can_be_table : List Str := ["rungs", "repeat", "_", "width", "length"]
abbrev s_Table_init : Stmt := inClass (top 13) 1
abbrev N_Table_init : List Str := ["self", "rungs", "repeat", "length", "_"]
abbrev s_L_longest : Stmt := top 37
abbrev N_L_longest : List Str := ["row", "place", "repeat", "before", "run", "number"]
abbrev s_L_size : Stmt := top 35
abbrev N_L_size : List Str := ["rungs", "number", "start", "size", "length", "wide"]
abbrev s_L_least : Stmt := top 38
abbrev N_L_least : List Str := ["row", "parts", "many", "costs", "steps", "back", "place", "cost", "run", "again", "tokens", "turn"]
abbrev s_Table_repetition_price : Stmt := inClass (top 13) 8
abbrev N_Table_repetition_price : List Str := ["self"]
abbrev s_Table_rung_of : Stmt := inClass (top 13) 4
abbrev N_Table_rung_of : List Str := ["self", "number", "place"]
abbrev s_Table_literal_price : Stmt := inClass (top 13) 5
abbrev N_Table_literal_price : List Str := ["self", "number", "length", "width"]
abbrev s_Table_most_repeated : Stmt := inClass (top 13) 7
abbrev N_Table_most_repeated : List Str := ["self"]
abbrev s_number_before : Stmt := top 5
abbrev N_number_before : List Str := ["numbers", "place"]
abbrev s_fewest_bits : Stmt := top 4
abbrev N_fewest_bits : List Str := ["numbers", "table", "literals", "number", "again", "prices", "repeated", "run", "place", "count", "repetition"]
abbrev s_least_tokens : Stmt := top 2
abbrev N_least_tokens : List Str := ["numbers", "table", "_", "repeated", "tokens", "place", "count"]
abbrev s_L_bits_of : Stmt := top 36
abbrev N_L_bits_of : List Str := ["tokens", "parts", "bits", "kind", "number"]
abbrev s_L_draw : Stmt := top 21
abbrev N_L_draw : List Str := ["drawer", "many", "value", "one", "two"]
abbrev s_L_pick : Stmt := top 22
abbrev N_L_pick : List Str := ["drawer", "choices"]
abbrev s_L_complete : Stmt := top 26
abbrev N_L_complete : List Str := ["drawer", "many", "lengths", "k", "place"]
abbrev s_L_dealt : Stmt := top 30
abbrev N_L_dealt : List Str := ["drawer", "row", "left", "dealt", "k"]
abbrev s_L_any_table : Stmt := top 31
abbrev N_L_any_table : List Str := ["drawer", "many", "again", "widest", "lengths", "k", "rungs"]
abbrev s_L_wide : Stmt := top 24
abbrev N_L_wide : List Str := ["modulus", "k"]
abbrev s_L_ladder : Stmt := top 25
abbrev N_L_ladder : List Str := ["first", "again", "modulus", "widths", "start", "k", "wide", "many", "lengths", "repeat"]
abbrev s_L_modulus : Stmt := top 23
abbrev N_L_modulus : List Str := ["drawer"]
abbrev s_L_coding_table : Stmt := top 32
abbrev N_L_coding_table : List Str := ["drawer"]
abbrev s_L_drawer : Stmt := top 20
abbrev N_L_drawer : List Str := ["script", "k", "cell", "seed"]
abbrev s_L_total : Stmt := top 33
abbrev N_L_total : List Str := ["rungs", "pair"]
abbrev s_L_run_row : Stmt := top 34
abbrev N_L_run_row : List Str := ["drawer", "limit", "many", "row", "before", "k"]
abbrev s_L_some_tokens : Stmt := top 27
abbrev N_L_some_tokens : List Str := ["drawer", "numbers", "table", "tokens", "place", "before", "turn", "run", "number", "many"]
abbrev s_L_int : Stmt := top 28
abbrev N_L_int : List Str := ["value"]
abbrev s_L_same : Stmt := top 29
abbrev N_L_same : List Str := ["got", "due", "k"]
abbrev s_price : Stmt := top 3
abbrev N_price : List Str := ["numbers", "table", "bits", "_"]
abbrev s_L_wins : Stmt := top 39
abbrev N_L_wins : List Str := ["told", "rival", "k", "counts"]
abbrev s_law : Stmt := top 40
abbrev N_law : List Str := ["script", "parts", "row", "rival", "drawer", "total", "table", "handed", "tokens", "cost", "told", "bits", "other", "due", "least"]
abbrev s_NoRung_init : Stmt := inClass (top 11) 0
abbrev N_NoRung_init : List Str := ["self", "number"]
theorem sc_rung_starts : FnScope N_rung_starts ["rungs"] (defScope s_rung_starts) := ⟨rfl, rfl, rfl, by decide +kernel, rfl, by decide +kernel, by decide +kernel⟩
def d_rung_starts : He5.DefA := ⟨fun K => He.ga K "rung_starts", "rung_starts", "rung_starts", defArgs s_rung_starts, defBody s_rung_starts, defScope s_rung_starts, [], []⟩
theorem sc_bits_of : FnScope N_bits_of ["number", "places"] (defScope s_bits_of) := ⟨rfl, rfl, rfl, by decide +kernel, rfl, by decide +kernel, by decide +kernel⟩
def d_bits_of : He5.DefA := ⟨fun K => He.ga K "bits_of", "bits_of", "bits_of", defArgs s_bits_of, defBody s_bits_of, defScope s_bits_of, [], []⟩
theorem sc_codewords : FnScope N_codewords ["lengths"] (defScope s_codewords) := ⟨rfl, rfl, rfl, by decide +kernel, rfl, by decide +kernel, by decide +kernel⟩
def d_codewords : He5.DefA := ⟨fun K => He.ga K "codewords", "codewords", "codewords", defArgs s_codewords, defBody s_codewords, defScope s_codewords, [], []⟩
theorem sc_are_complete : FnScope N_are_complete ["lengths"] (defScope s_are_complete) := ⟨rfl, rfl, rfl, by decide +kernel, rfl, by decide +kernel, by decide +kernel⟩
def d_are_complete : He5.DefA := ⟨fun K => He.ga K "are_complete", "are_complete", "are_complete", defArgs s_are_complete, defBody s_are_complete, defScope s_are_complete, [], []⟩
theorem sc_entries_of : FnScope N_entries_of ["rungs", "repeat"] (defScope s_entries_of) := ⟨rfl, rfl, rfl, by decide +kernel, rfl, by decide +kernel, by decide +kernel⟩
def d_entries_of : He5.DefA := ⟨fun K => He.ga K "entries_of", "entries_of", "entries_of", defArgs s_entries_of, defBody s_entries_of, defScope s_entries_of, [], []⟩
theorem sc_can_be_table : FnScope N_can_be_table ["rungs", "repeat"] (defScope s_can_be_table) := ⟨rfl, rfl, rfl, by decide +kernel, rfl, by decide +kernel, by decide +kernel⟩
def d_can_be_table : He5.DefA := ⟨fun K => He.ga K "can_be_table", "can_be_table", "can_be_table", defArgs s_can_be_table, defBody s_can_be_table, defScope s_can_be_table, [], []⟩
theorem sc_Table_init : FnScope N_Table_init ["self", "rungs", "repeat"] (defScope s_Table_init) := ⟨rfl, rfl, rfl, by decide +kernel, rfl, by decide +kernel, by decide +kernel⟩
def d_Table_init : He5.DefA := ⟨fun K => He.ma K (He.ga K "Table") "__init__", "__init__", "Table.__init__", defArgs s_Table_init, defBody s_Table_init, defScope s_Table_init, [.non], []⟩
theorem sc_L_longest : FnScope N_L_longest ["row", "place", "repeat"] (defScope s_L_longest) := ⟨rfl, rfl, rfl, by decide +kernel, rfl, by decide +kernel, by decide +kernel⟩
def d_L_longest : He5.DefA := ⟨fun K => He.ga K "_law_longest", "_law_longest", "_law_longest", defArgs s_L_longest, defBody s_L_longest, defScope s_L_longest, [], []⟩
theorem sc_L_size : FnScope N_L_size ["rungs", "number"] (defScope s_L_size) := ⟨rfl, rfl, rfl, by decide +kernel, rfl, by decide +kernel, by decide +kernel⟩
def d_L_size : He5.DefA := ⟨fun K => He.ga K "_law_size", "_law_size", "_law_size", defArgs s_L_size, defBody s_L_size, defScope s_L_size, [], []⟩
theorem sc_L_least : FnScope N_L_least ["row", "parts"] (defScope s_L_least) := ⟨rfl, rfl, rfl, by decide +kernel, rfl, by decide +kernel, by decide +kernel⟩
def d_L_least : He5.DefA := ⟨fun K => He.ga K "_law_least", "_law_least", "_law_least", defArgs s_L_least, defBody s_L_least, defScope s_L_least, [], []⟩
theorem sc_Table_repetition_price : FnScope N_Table_repetition_price ["self"] (defScope s_Table_repetition_price) := ⟨rfl, rfl, rfl, by decide +kernel, rfl, by decide +kernel, by decide +kernel⟩
def d_Table_repetition_price : He5.DefA := ⟨fun K => He.ma K (He.ga K "Table") "repetition_price", "repetition_price", "Table.repetition_price", defArgs s_Table_repetition_price, defBody s_Table_repetition_price, defScope s_Table_repetition_price, [], []⟩
theorem sc_Table_rung_of : FnScope N_Table_rung_of ["self", "number"] (defScope s_Table_rung_of) := ⟨rfl, rfl, rfl, by decide +kernel, rfl, by decide +kernel, by decide +kernel⟩
def d_Table_rung_of : He5.DefA := ⟨fun K => He.ma K (He.ga K "Table") "rung_of", "rung_of", "Table.rung_of", defArgs s_Table_rung_of, defBody s_Table_rung_of, defScope s_Table_rung_of, [], []⟩
theorem sc_Table_literal_price : FnScope N_Table_literal_price ["self", "number"] (defScope s_Table_literal_price) := ⟨rfl, rfl, rfl, by decide +kernel, rfl, by decide +kernel, by decide +kernel⟩
def d_Table_literal_price : He5.DefA := ⟨fun K => He.ma K (He.ga K "Table") "literal_price", "literal_price", "Table.literal_price", defArgs s_Table_literal_price, defBody s_Table_literal_price, defScope s_Table_literal_price, [], []⟩
theorem sc_Table_most_repeated : FnScope N_Table_most_repeated ["self"] (defScope s_Table_most_repeated) := ⟨rfl, rfl, rfl, by decide +kernel, rfl, by decide +kernel, by decide +kernel⟩
def d_Table_most_repeated : He5.DefA := ⟨fun K => He.ma K (He.ga K "Table") "most_repeated", "most_repeated", "Table.most_repeated", defArgs s_Table_most_repeated, defBody s_Table_most_repeated, defScope s_Table_most_repeated, [], []⟩
theorem sc_number_before : FnScope N_number_before ["numbers", "place"] (defScope s_number_before) := ⟨rfl, rfl, rfl, by decide +kernel, rfl, by decide +kernel, by decide +kernel⟩
def d_number_before : He5.DefA := ⟨fun K => He.ga K "number_before", "number_before", "number_before", defArgs s_number_before, defBody s_number_before, defScope s_number_before, [], []⟩
theorem sc_fewest_bits : FnScope N_fewest_bits ["numbers", "table"] (defScope s_fewest_bits) := ⟨rfl, rfl, rfl, by decide +kernel, rfl, by decide +kernel, by decide +kernel⟩
def d_fewest_bits : He5.DefA := ⟨fun K => He.ga K "fewest_bits", "fewest_bits", "fewest_bits", defArgs s_fewest_bits, defBody s_fewest_bits, defScope s_fewest_bits, [], []⟩
theorem sc_least_tokens : FnScope N_least_tokens ["numbers", "table"] (defScope s_least_tokens) := ⟨rfl, rfl, rfl, by decide +kernel, rfl, by decide +kernel, by decide +kernel⟩
def d_least_tokens : He5.DefA := ⟨fun K => He.ga K "least_tokens", "least_tokens", "least_tokens", defArgs s_least_tokens, defBody s_least_tokens, defScope s_least_tokens, [], []⟩
theorem sc_L_bits_of : FnScope N_L_bits_of ["tokens", "parts"] (defScope s_L_bits_of) := ⟨rfl, rfl, rfl, by decide +kernel, rfl, by decide +kernel, by decide +kernel⟩
def d_L_bits_of : He5.DefA := ⟨fun K => He.ga K "_law_bits_of", "_law_bits_of", "_law_bits_of", defArgs s_L_bits_of, defBody s_L_bits_of, defScope s_L_bits_of, [], []⟩
theorem sc_L_draw : FnScope N_L_draw ["drawer", "many"] (defScope s_L_draw) := ⟨rfl, rfl, rfl, by decide +kernel, rfl, by decide +kernel, by decide +kernel⟩
def d_L_draw : He5.DefA := ⟨fun K => He.ga K "_law_draw", "_law_draw", "_law_draw", defArgs s_L_draw, defBody s_L_draw, defScope s_L_draw, [], []⟩
theorem sc_L_pick : FnScope N_L_pick ["drawer", "choices"] (defScope s_L_pick) := ⟨rfl, rfl, rfl, by decide +kernel, rfl, by decide +kernel, by decide +kernel⟩
def d_L_pick : He5.DefA := ⟨fun K => He.ga K "_law_pick", "_law_pick", "_law_pick", defArgs s_L_pick, defBody s_L_pick, defScope s_L_pick, [], []⟩
theorem sc_L_complete : FnScope N_L_complete ["drawer", "many"] (defScope s_L_complete) := ⟨rfl, rfl, rfl, by decide +kernel, rfl, by decide +kernel, by decide +kernel⟩
def d_L_complete : He5.DefA := ⟨fun K => He.ga K "_law_complete", "_law_complete", "_law_complete", defArgs s_L_complete, defBody s_L_complete, defScope s_L_complete, [], []⟩
theorem sc_L_dealt : FnScope N_L_dealt ["drawer", "row"] (defScope s_L_dealt) := ⟨rfl, rfl, rfl, by decide +kernel, rfl, by decide +kernel, by decide +kernel⟩
def d_L_dealt : He5.DefA := ⟨fun K => He.ga K "_law_dealt", "_law_dealt", "_law_dealt", defArgs s_L_dealt, defBody s_L_dealt, defScope s_L_dealt, [], []⟩
theorem sc_L_any_table : FnScope N_L_any_table ["drawer"] (defScope s_L_any_table) := ⟨rfl, rfl, rfl, by decide +kernel, rfl, by decide +kernel, by decide +kernel⟩
def d_L_any_table : He5.DefA := ⟨fun K => He.ga K "_law_any_table", "_law_any_table", "_law_any_table", defArgs s_L_any_table, defBody s_L_any_table, defScope s_L_any_table, [], []⟩
theorem sc_L_wide : FnScope N_L_wide ["modulus"] (defScope s_L_wide) := ⟨rfl, rfl, rfl, by decide +kernel, rfl, by decide +kernel, by decide +kernel⟩
def d_L_wide : He5.DefA := ⟨fun K => He.ga K "_law_wide", "_law_wide", "_law_wide", defArgs s_L_wide, defBody s_L_wide, defScope s_L_wide, [], []⟩
theorem sc_L_ladder : FnScope N_L_ladder ["first", "again", "modulus"] (defScope s_L_ladder) := ⟨rfl, rfl, rfl, by decide +kernel, rfl, by decide +kernel, by decide +kernel⟩
def d_L_ladder : He5.DefA := ⟨fun K => He.ga K "_law_ladder", "_law_ladder", "_law_ladder", defArgs s_L_ladder, defBody s_L_ladder, defScope s_L_ladder, [], []⟩
theorem sc_L_modulus : FnScope N_L_modulus ["drawer"] (defScope s_L_modulus) := ⟨rfl, rfl, rfl, by decide +kernel, rfl, by decide +kernel, by decide +kernel⟩
def d_L_modulus : He5.DefA := ⟨fun K => He.ga K "_law_modulus", "_law_modulus", "_law_modulus", defArgs s_L_modulus, defBody s_L_modulus, defScope s_L_modulus, [], []⟩
theorem sc_L_coding_table : FnScope N_L_coding_table ["drawer"] (defScope s_L_coding_table) := ⟨rfl, rfl, rfl, by decide +kernel, rfl, by decide +kernel, by decide +kernel⟩
def d_L_coding_table : He5.DefA := ⟨fun K => He.ga K "_law_coding_table", "_law_coding_table", "_law_coding_table", defArgs s_L_coding_table, defBody s_L_coding_table, defScope s_L_coding_table, [], []⟩
theorem sc_L_drawer : FnScope N_L_drawer ["script", "k"] (defScope s_L_drawer) := ⟨rfl, rfl, rfl, by decide +kernel, rfl, by decide +kernel, by decide +kernel⟩
def d_L_drawer : He5.DefA := ⟨fun K => He.ga K "_law_drawer", "_law_drawer", "_law_drawer", defArgs s_L_drawer, defBody s_L_drawer, defScope s_L_drawer, [], []⟩
theorem sc_L_total : FnScope N_L_total ["rungs"] (defScope s_L_total) := ⟨rfl, rfl, rfl, by decide +kernel, rfl, by decide +kernel, by decide +kernel⟩
def d_L_total : He5.DefA := ⟨fun K => He.ga K "_law_total", "_law_total", "_law_total", defArgs s_L_total, defBody s_L_total, defScope s_L_total, [], []⟩
theorem sc_L_run_row : FnScope N_L_run_row ["drawer", "limit"] (defScope s_L_run_row) := ⟨rfl, rfl, rfl, by decide +kernel, rfl, by decide +kernel, by decide +kernel⟩
def d_L_run_row : He5.DefA := ⟨fun K => He.ga K "_law_run_row", "_law_run_row", "_law_run_row", defArgs s_L_run_row, defBody s_L_run_row, defScope s_L_run_row, [], []⟩
theorem sc_L_some_tokens : FnScope N_L_some_tokens ["drawer", "numbers", "table"] (defScope s_L_some_tokens) := ⟨rfl, rfl, rfl, by decide +kernel, rfl, by decide +kernel, by decide +kernel⟩
def d_L_some_tokens : He5.DefA := ⟨fun K => He.ga K "_law_some_tokens", "_law_some_tokens", "_law_some_tokens", defArgs s_L_some_tokens, defBody s_L_some_tokens, defScope s_L_some_tokens, [], []⟩
theorem sc_L_int : FnScope N_L_int ["value"] (defScope s_L_int) := ⟨rfl, rfl, rfl, by decide +kernel, rfl, by decide +kernel, by decide +kernel⟩
def d_L_int : He5.DefA := ⟨fun K => He.ga K "_law_int", "_law_int", "_law_int", defArgs s_L_int, defBody s_L_int, defScope s_L_int, [], []⟩
theorem sc_L_same : FnScope N_L_same ["got", "due"] (defScope s_L_same) := ⟨rfl, rfl, rfl, by decide +kernel, rfl, by decide +kernel, by decide +kernel⟩
def d_L_same : He5.DefA := ⟨fun K => He.ga K "_law_same", "_law_same", "_law_same", defArgs s_L_same, defBody s_L_same, defScope s_L_same, [], []⟩
theorem sc_price : FnScope N_price ["numbers", "table"] (defScope s_price) := ⟨rfl, rfl, rfl, by decide +kernel, rfl, by decide +kernel, by decide +kernel⟩
def d_price : He5.DefA := ⟨fun K => He.ga K "price", "price", "price", defArgs s_price, defBody s_price, defScope s_price, [], []⟩
theorem sc_L_wins : FnScope N_L_wins ["told", "rival"] (defScope s_L_wins) := ⟨rfl, rfl, rfl, by decide +kernel, rfl, by decide +kernel, by decide +kernel⟩
def d_L_wins : He5.DefA := ⟨fun K => He.ga K "_law_wins", "_law_wins", "_law_wins", defArgs s_L_wins, defBody s_L_wins, defScope s_L_wins, [], []⟩
theorem sc_law : FnScope N_law ["script"] (defScope s_law) := ⟨rfl, rfl, rfl, by decide +kernel, rfl, by decide +kernel, by decide +kernel⟩
def d_law : He5.DefA := ⟨fun K => He.ga K "law", "law", "law", defArgs s_law, defBody s_law, defScope s_law, [], []⟩
theorem sc_NoRung_init : FnScope N_NoRung_init ["self", "number"] (defScope s_NoRung_init) := ⟨rfl, rfl, rfl, by decide +kernel, rfl, by decide +kernel, by decide +kernel⟩
def d_NoRung_init : He5.DefA := ⟨fun K => He.ma K (He.ga K "NoRung") "__init__", "__init__", "NoRung.__init__", defArgs s_NoRung_init, defBody s_NoRung_init, defScope s_NoRung_init, [], []⟩
def fn : List He5.DefA := [d_rung_starts, d_bits_of, d_codewords, d_are_complete, d_entries_of, d_can_be_table, d_Table_init, d_L_longest, d_L_size, d_L_least, d_Table_repetition_price, d_Table_rung_of, d_Table_literal_price, d_Table_most_repeated, d_number_before, d_fewest_bits, d_least_tokens, d_L_bits_of, d_L_draw, d_L_pick, d_L_complete, d_L_dealt, d_L_any_table, d_L_wide, d_L_ladder, d_L_modulus, d_L_coding_table, d_L_drawer, d_L_total, d_L_run_row, d_L_some_tokens, d_L_int, d_L_same, d_price, d_L_wins, d_law, d_NoRung_init]
def fa : List He.Fa := [.free "tuple", .free "enumerate", .free "sorted", .glo "bits_of", .free "len", .glo "Table", .free "sum", .free "all", .free "list", .glo "entries_of", .glo "are_complete", .cls "Table", .noat "Table" "words", .noat "Table" "rungs", .glo "codewords", .noat "Table" "total", .noat "Table" "starts", .glo "rung_starts", .noat "Table" "repeat", .glo "can_be_table", .exc "BadTable", .glo "BadTable", .free "min", .free "range", .glo "_law_longest", .glo "_law_size", .meth "NoRung" "__init__", .glo "NoRung", .meth "Table" "rung_of", .free "reversed", .meth "Table" "most_repeated", .glo "number_before", .meth "Table" "repetition_price", .meth "Table" "literal_price", .free "max", .glo "fewest_bits", .free "int", .glo "_law_draw", .glo "_law_dealt", .glo "_law_complete", .glo "_law_pick", .glo "_law_wide", .glo "_law_any_table", .glo "_law_modulus", .glo "_law_ladder", .free "abs", .free "bool", .free "isinstance", .glo "_law_same", .free "str", .glo "_law_int", .glo "price", .glo "least_tokens", .glo "_law_least", .glo "_law_wins", .glo "_law_bits_of", .mkr "Table", .glo "_law_drawer", .glo "_law_some_tokens", .glo "_law_run_row", .glo "_law_total", .glo "_law_coding_table", .noat "NoRung" "number", .glo "law"]
structure Txt (K : PySem.W.Frag) (mg : Str → Option Value) (h : Heap) : Prop where
  s : He5.SaysA fa fn K
  x : exB K = true
  X : K.In h
  G : h.Ns mainGlobals mg
section
variable {P : Program} {w : World} {K : PySem.W.Frag} {mg : Str → Option Value} {base h : Heap}
theorem n_tuple (T : Txt K mg h) : mg "tuple" = none := He.free_ok T.X T.G (T.s.fact 0 (f := .free "tuple") rfl)
theorem n_enumerate (T : Txt K mg h) : mg "enumerate" = none := He.free_ok T.X T.G (T.s.fact 1 (f := .free "enumerate") rfl)
theorem n_sorted (T : Txt K mg h) : mg "sorted" = none := He.free_ok T.X T.G (T.s.fact 2 (f := .free "sorted") rfl)
theorem g_bits_of (T : Txt K mg h) : mg "bits_of" = some (.ref (He.ga K "bits_of")) := He.glo_ok T.X T.G (T.s.fact 3 (f := .glo "bits_of") rfl)
theorem n_len (T : Txt K mg h) : mg "len" = none := He.free_ok T.X T.G (T.s.fact 4 (f := .free "len") rfl)
theorem g_Table (T : Txt K mg h) : mg "Table" = some (.ref (He.ga K "Table")) := He.glo_ok T.X T.G (T.s.fact 5 (f := .glo "Table") rfl)
theorem n_sum (T : Txt K mg h) : mg "sum" = none := He.free_ok T.X T.G (T.s.fact 6 (f := .free "sum") rfl)
theorem n_all (T : Txt K mg h) : mg "all" = none := He.free_ok T.X T.G (T.s.fact 7 (f := .free "all") rfl)
theorem n_list (T : Txt K mg h) : mg "list" = none := He.free_ok T.X T.G (T.s.fact 8 (f := .free "list") rfl)
theorem g_entries_of (T : Txt K mg h) : mg "entries_of" = some (.ref (He.ga K "entries_of")) := He.glo_ok T.X T.G (T.s.fact 9 (f := .glo "entries_of") rfl)
theorem g_are_complete (T : Txt K mg h) : mg "are_complete" = some (.ref (He.ga K "are_complete")) := He.glo_ok T.X T.G (T.s.fact 10 (f := .glo "are_complete") rfl)
theorem fo_Table_words (T : Txt K mg h) : FldOk K "words" (He.ga K "Table") := ⟨He.cls_ok (T.s.fact 11 (f := .cls "Table") rfl), He.noat_ok (T.s.fact 12 (f := .noat "Table" "words") rfl)⟩
theorem fo_Table_rungs (T : Txt K mg h) : FldOk K "rungs" (He.ga K "Table") := ⟨He.cls_ok (T.s.fact 11 (f := .cls "Table") rfl), He.noat_ok (T.s.fact 13 (f := .noat "Table" "rungs") rfl)⟩
theorem g_codewords (T : Txt K mg h) : mg "codewords" = some (.ref (He.ga K "codewords")) := He.glo_ok T.X T.G (T.s.fact 14 (f := .glo "codewords") rfl)
theorem fo_Table_total (T : Txt K mg h) : FldOk K "total" (He.ga K "Table") := ⟨He.cls_ok (T.s.fact 11 (f := .cls "Table") rfl), He.noat_ok (T.s.fact 15 (f := .noat "Table" "total") rfl)⟩
theorem fo_Table_starts (T : Txt K mg h) : FldOk K "starts" (He.ga K "Table") := ⟨He.cls_ok (T.s.fact 11 (f := .cls "Table") rfl), He.noat_ok (T.s.fact 16 (f := .noat "Table" "starts") rfl)⟩
theorem g_rung_starts (T : Txt K mg h) : mg "rung_starts" = some (.ref (He.ga K "rung_starts")) := He.glo_ok T.X T.G (T.s.fact 17 (f := .glo "rung_starts") rfl)
theorem fo_Table_repeat (T : Txt K mg h) : FldOk K "repeat" (He.ga K "Table") := ⟨He.cls_ok (T.s.fact 11 (f := .cls "Table") rfl), He.noat_ok (T.s.fact 18 (f := .noat "Table" "repeat") rfl)⟩
theorem g_can_be_table (T : Txt K mg h) : mg "can_be_table" = some (.ref (He.ga K "can_be_table")) := He.glo_ok T.X T.G (T.s.fact 19 (f := .glo "can_be_table") rfl)
theorem g_BadTable (T : Txt K mg h) : mg "BadTable" = some (.ref (He.ga K "BadTable")) := He.glo_ok T.X T.G (T.s.fact 21 (f := .glo "BadTable") rfl)
theorem n_min (T : Txt K mg h) : mg "min" = none := He.free_ok T.X T.G (T.s.fact 22 (f := .free "min") rfl)
theorem n_range (T : Txt K mg h) : mg "range" = none := He.free_ok T.X T.G (T.s.fact 23 (f := .free "range") rfl)
theorem g_L_longest (T : Txt K mg h) : mg "_law_longest" = some (.ref (He.ga K "_law_longest")) := He.glo_ok T.X T.G (T.s.fact 24 (f := .glo "_law_longest") rfl)
theorem g_L_size (T : Txt K mg h) : mg "_law_size" = some (.ref (He.ga K "_law_size")) := He.glo_ok T.X T.G (T.s.fact 25 (f := .glo "_law_size") rfl)
theorem m_NoRung_init (T : Txt K mg h) : Meth K (He.ga K "NoRung") "__init__" (He.ma K (He.ga K "NoRung") "__init__") := He.meth_ok (T.s.fact 26 (f := .meth "NoRung" "__init__") rfl)
theorem g_NoRung (T : Txt K mg h) : mg "NoRung" = some (.ref (He.ga K "NoRung")) := He.glo_ok T.X T.G (T.s.fact 27 (f := .glo "NoRung") rfl)
theorem m_Table_rung_of (T : Txt K mg h) : Meth K (He.ga K "Table") "rung_of" (He.ma K (He.ga K "Table") "rung_of") := He.meth_ok (T.s.fact 28 (f := .meth "Table" "rung_of") rfl)
theorem n_reversed (T : Txt K mg h) : mg "reversed" = none := He.free_ok T.X T.G (T.s.fact 29 (f := .free "reversed") rfl)
theorem m_Table_most_repeated (T : Txt K mg h) : Meth K (He.ga K "Table") "most_repeated" (He.ma K (He.ga K "Table") "most_repeated") := He.meth_ok (T.s.fact 30 (f := .meth "Table" "most_repeated") rfl)
theorem g_number_before (T : Txt K mg h) : mg "number_before" = some (.ref (He.ga K "number_before")) := He.glo_ok T.X T.G (T.s.fact 31 (f := .glo "number_before") rfl)
theorem m_Table_repetition_price (T : Txt K mg h) : Meth K (He.ga K "Table") "repetition_price" (He.ma K (He.ga K "Table") "repetition_price") := He.meth_ok (T.s.fact 32 (f := .meth "Table" "repetition_price") rfl)
theorem m_Table_literal_price (T : Txt K mg h) : Meth K (He.ga K "Table") "literal_price" (He.ma K (He.ga K "Table") "literal_price") := He.meth_ok (T.s.fact 33 (f := .meth "Table" "literal_price") rfl)
theorem n_max (T : Txt K mg h) : mg "max" = none := He.free_ok T.X T.G (T.s.fact 34 (f := .free "max") rfl)
theorem g_fewest_bits (T : Txt K mg h) : mg "fewest_bits" = some (.ref (He.ga K "fewest_bits")) := He.glo_ok T.X T.G (T.s.fact 35 (f := .glo "fewest_bits") rfl)
theorem n_int (T : Txt K mg h) : mg "int" = none := He.free_ok T.X T.G (T.s.fact 36 (f := .free "int") rfl)
theorem g_L_draw (T : Txt K mg h) : mg "_law_draw" = some (.ref (He.ga K "_law_draw")) := He.glo_ok T.X T.G (T.s.fact 37 (f := .glo "_law_draw") rfl)
theorem g_L_dealt (T : Txt K mg h) : mg "_law_dealt" = some (.ref (He.ga K "_law_dealt")) := He.glo_ok T.X T.G (T.s.fact 38 (f := .glo "_law_dealt") rfl)
theorem g_L_complete (T : Txt K mg h) : mg "_law_complete" = some (.ref (He.ga K "_law_complete")) := He.glo_ok T.X T.G (T.s.fact 39 (f := .glo "_law_complete") rfl)
theorem g_L_pick (T : Txt K mg h) : mg "_law_pick" = some (.ref (He.ga K "_law_pick")) := He.glo_ok T.X T.G (T.s.fact 40 (f := .glo "_law_pick") rfl)
theorem g_L_wide (T : Txt K mg h) : mg "_law_wide" = some (.ref (He.ga K "_law_wide")) := He.glo_ok T.X T.G (T.s.fact 41 (f := .glo "_law_wide") rfl)
theorem g_L_any_table (T : Txt K mg h) : mg "_law_any_table" = some (.ref (He.ga K "_law_any_table")) := He.glo_ok T.X T.G (T.s.fact 42 (f := .glo "_law_any_table") rfl)
theorem g_L_modulus (T : Txt K mg h) : mg "_law_modulus" = some (.ref (He.ga K "_law_modulus")) := He.glo_ok T.X T.G (T.s.fact 43 (f := .glo "_law_modulus") rfl)
theorem g_L_ladder (T : Txt K mg h) : mg "_law_ladder" = some (.ref (He.ga K "_law_ladder")) := He.glo_ok T.X T.G (T.s.fact 44 (f := .glo "_law_ladder") rfl)
theorem n_abs (T : Txt K mg h) : mg "abs" = none := He.free_ok T.X T.G (T.s.fact 45 (f := .free "abs") rfl)
theorem n_bool (T : Txt K mg h) : mg "bool" = none := He.free_ok T.X T.G (T.s.fact 46 (f := .free "bool") rfl)
theorem n_isinstance (T : Txt K mg h) : mg "isinstance" = none := He.free_ok T.X T.G (T.s.fact 47 (f := .free "isinstance") rfl)
theorem g_L_same (T : Txt K mg h) : mg "_law_same" = some (.ref (He.ga K "_law_same")) := He.glo_ok T.X T.G (T.s.fact 48 (f := .glo "_law_same") rfl)
theorem n_str (T : Txt K mg h) : mg "str" = none := He.free_ok T.X T.G (T.s.fact 49 (f := .free "str") rfl)
theorem g_L_int (T : Txt K mg h) : mg "_law_int" = some (.ref (He.ga K "_law_int")) := He.glo_ok T.X T.G (T.s.fact 50 (f := .glo "_law_int") rfl)
theorem g_price (T : Txt K mg h) : mg "price" = some (.ref (He.ga K "price")) := He.glo_ok T.X T.G (T.s.fact 51 (f := .glo "price") rfl)
theorem g_least_tokens (T : Txt K mg h) : mg "least_tokens" = some (.ref (He.ga K "least_tokens")) := He.glo_ok T.X T.G (T.s.fact 52 (f := .glo "least_tokens") rfl)
theorem g_L_least (T : Txt K mg h) : mg "_law_least" = some (.ref (He.ga K "_law_least")) := He.glo_ok T.X T.G (T.s.fact 53 (f := .glo "_law_least") rfl)
theorem g_L_wins (T : Txt K mg h) : mg "_law_wins" = some (.ref (He.ga K "_law_wins")) := He.glo_ok T.X T.G (T.s.fact 54 (f := .glo "_law_wins") rfl)
theorem g_L_bits_of (T : Txt K mg h) : mg "_law_bits_of" = some (.ref (He.ga K "_law_bits_of")) := He.glo_ok T.X T.G (T.s.fact 55 (f := .glo "_law_bits_of") rfl)
theorem g_L_drawer (T : Txt K mg h) : mg "_law_drawer" = some (.ref (He.ga K "_law_drawer")) := He.glo_ok T.X T.G (T.s.fact 57 (f := .glo "_law_drawer") rfl)
theorem g_L_some_tokens (T : Txt K mg h) : mg "_law_some_tokens" = some (.ref (He.ga K "_law_some_tokens")) := He.glo_ok T.X T.G (T.s.fact 58 (f := .glo "_law_some_tokens") rfl)
theorem g_L_run_row (T : Txt K mg h) : mg "_law_run_row" = some (.ref (He.ga K "_law_run_row")) := He.glo_ok T.X T.G (T.s.fact 59 (f := .glo "_law_run_row") rfl)
theorem g_L_total (T : Txt K mg h) : mg "_law_total" = some (.ref (He.ga K "_law_total")) := He.glo_ok T.X T.G (T.s.fact 60 (f := .glo "_law_total") rfl)
theorem g_L_coding_table (T : Txt K mg h) : mg "_law_coding_table" = some (.ref (He.ga K "_law_coding_table")) := He.glo_ok T.X T.G (T.s.fact 61 (f := .glo "_law_coding_table") rfl)
theorem g_law (T : Txt K mg h) : mg "law" = some (.ref (He.ga K "law")) := He.glo_ok T.X T.G (T.s.fact 63 (f := .glo "law") rfl)
theorem cl_Table (T : Txt K mg h) : Cls K (He.ga K "Table") := He.cls_ok (T.s.fact 11 (f := .cls "Table") rfl)
theorem ox_NoRung (T : Txt K mg h) : OexC K (He.ga K "NoRung") := oexB_ok (He.ba ((He.ba T.x).2)).1
theorem ci_Table_LONGEST (T : Txt K mg h) : CInt K (He.ga K "Table") "LONGEST" 15 := cint_ok (He.ba ((He.ba (He.ba T.x).2).2)).1
end
def B_L_longest_4 : FSt := (fRet (fCB cMin2 (fCons (fVar 4) (fCons (fOp oShl (fC (.int 1)) (fOp oIx (fVar 2) (fC (.int 1)))) fNil))))
def B_L_longest_3 : FSt := (fSeq (fFor (iFix (fSl false (fVar 0) (fPart (fVar 1)) fNoPart)) (gNm 5) (fSeq (fIf (fTest (fOp oNe (fVar 5) (fVar 3))) fBreak fNext) (fAsg (fOp (oAdd false) (fVar 4) (fC (.int 1))) (gNm 4))) [5]) B_L_longest_4)
def B_L_longest_2 : FSt := (fSeq (fAsg (fC (.int 0)) (gNm 4)) B_L_longest_3)
def B_L_longest_1 : FSt := (fSeq (fAsg (fOp oIx (fOp (oAdd false) (fLst false (fCons (fC (.int 0)) fNil)) (fVar 0)) (fVar 1)) (gNm 3)) B_L_longest_2)
def B_L_longest : FSt := (fSeq (fIf (fTest (fOp oIsN (fVar 2) (fC .non))) (fRet (fC (.int 0))) fNext) B_L_longest_1)
def F_L_longest : Fn := (fRun 3 6 false (B_L_longest))
def B_L_size_3 : FSt := (fRet (fVar 3))
def B_L_size_2 : FSt := (fSeq (fFor (iFix (fVar 0)) (gTp 2 (gCs (gNm 4) (gCs (gNm 5) gNl))) (fSeq (fIf (fTest (fChain (oI0 fun i j => .bl (decide (i ≤ j))) (oI0 fun i j => .bl (decide (i < j))) (fVar 2) (fVar 1) (fOp (oAdd false) (fVar 2) (fOp oShl (fC (.int 1)) (fVar 5))))) (fAsg (fOp (oAdd false) (fVar 4) (fVar 5)) (gNm 3)) fNext) (fAsg (fOp (oAdd false) (fVar 2) (fOp oShl (fC (.int 1)) (fVar 5))) (gNm 2))) [4, 5]) B_L_size_3)
def B_L_size_1 : FSt := (fSeq (fAsg (fC (.int 0)) (gNm 3)) B_L_size_2)
def B_L_size : FSt := (fSeq (fAsg (fC (.int 0)) (gNm 2)) B_L_size_1)
def F_L_size : Fn := (fRun 2 6 false (B_L_size))
def B_L_least_7 : FSt := (fFrz 10 (fRet (fTup (fCons (fCB cTuple (fCons (fVar 10) fNil)) (fCons (fOp oIx (fVar 3) (fC (.int 0))) fNil)))))
def B_L_least_6 : FSt := (fSeq (fFor (iR1 (fCons (fVar 2) fNil)) (gNm 11) (fIf (fAnd (fTest (fOp (oI0 fun i j => .bl (decide (i < j))) (fVar 6) (fVar 2))) (fTest (fOp (oI0 fun i j => .bl (decide (j < i))) (fOp oIx (fVar 4) (fVar 6)) (fC (.int 0))))) (fSeq (fApp (fVar 10) (fTup (fCons (fC (.str "again")) (fCons (fOp oIx (fVar 4) (fVar 6)) fNil)))) (fAsg (fOp (oAdd false) (fVar 6) (fOp oIx (fVar 4) (fVar 6))) (gNm 6))) (fIf (fTest (fOp (oI0 fun i j => .bl (decide (i < j))) (fVar 6) (fVar 2))) (fSeq (fApp (fVar 10) (fTup (fCons (fC (.str "one")) (fCons (fOp oIx (fVar 0) (fVar 6)) fNil)))) (fAsg (fOp (oAdd false) (fVar 6) (fC (.int 1))) (gNm 6))) fNext)) [11]) B_L_least_7)
def B_L_least_5 : FSt := (fSeq (fAsg (fC (.int 0)) (gNm 6)) B_L_least_6)
def B_L_least_4 : FSt := (fFrz 4 (fFrz 3 (fSeq (fAsg (fLst true fNil) (gNm 10)) B_L_least_5)))
def B_L_least_3 : FSt := (fSeq (fFor (iR1 (fCons (fVar 2) fNil)) (gNm 5) (fSeq (fAsg (fOp oSub (fOp oSub (fVar 2) (fC (.int 1))) (fVar 5)) (gNm 6)) (fSeq (fAsg (fOp (oAdd false) (fDef [false, false] F_L_size [] (fCons (fOp oIx (fVar 1) (fC (.int 0))) (fCons (fOp oIx (fVar 0) (fVar 6)) fNil))) (fOp oIx (fVar 3) (fOp (oAdd false) (fVar 6) (fC (.int 1))))) (gNm 7)) (fSeq (fAsg (fDef [false, false, false] F_L_longest [] (fCons (fVar 0) (fCons (fVar 6) (fCons (fOp oIx (fVar 1) (fC (.int 1))) fNil)))) (gNm 8)) (fSeq (fIf (fTest (fOp (oI0 fun i j => .bl (decide (j < i))) (fVar 8) (fC (.int 0)))) (fSeq (fAsg (fOp (oAdd false) (fOp (oAdd false) (fOp oIx (fOp oIx (fVar 1) (fC (.int 1))) (fC (.int 0))) (fOp oIx (fOp oIx (fVar 1) (fC (.int 1))) (fC (.int 1)))) (fOp oIx (fVar 3) (fOp (oAdd false) (fVar 6) (fVar 8)))) (gNm 9)) (fIf (fOr (fTest (fOp (oI0 fun i j => .bl (decide (i < j))) (fVar 9) (fVar 7))) (fAnd (fTest (fOp oEqD (fVar 9) (fVar 7))) (fTest (fOp (oI0 fun i j => .bl (decide (j < i))) (fVar 8) (fC (.int 1)))))) (fSeq (fAsg (fVar 9) (gNm 7)) (fSet (fVar 4) (fVar 6) (fVar 8))) fNext)) fNext) (fSet (fVar 3) (fVar 6) (fVar 7)))))) [5, 6, 7, 8, 9]) B_L_least_4)
def B_L_least_2 : FSt := (fSeq (fAsg (fOp (oRep true) (fLst false (fCons (fC (.int 0)) fNil)) (fVar 2)) (gNm 4)) B_L_least_3)
def B_L_least_1 : FSt := (fSeq (fAsg (fOp (oRep true) (fLst false (fCons (fC (.int 0)) fNil)) (fOp (oAdd false) (fVar 2) (fC (.int 1)))) (gNm 3)) B_L_least_2)
def B_L_least : FSt := (fSeq (fAsg (fCB cLen (fCons (fVar 0) fNil)) (gNm 2)) B_L_least_1)
def F_L_least : Fn := (fRun 2 12 false (B_L_least))
def B_Table_repetition_price (K : PySem.W.Frag) : FSt := (fRet (fIfE (fTest (fOp oIsN (fFld (He.ga K "Table") "repeat" (fVar 0)) (fC .non))) (fC (.int 0)) (fOp (oAdd false) (fOp oIx (fFld (He.ga K "Table") "repeat" (fVar 0)) (fC (.int 0))) (fOp oIx (fFld (He.ga K "Table") "repeat" (fVar 0)) (fC (.int 1))))))
def F_Table_repetition_price (K : PySem.W.Frag) : Fn := (fRun 1 1 false (B_Table_repetition_price K))
def B_Table_literal_price (K : PySem.W.Frag) : FSt := (fSeq (fAsg (fOp oIx (fFld (He.ga K "Table") "rungs" (fVar 0)) (fMet (He.ga K "Table") "rung_of" (FRL.F_Table_rung_of K) [] (fVar 0) (fCons (fVar 1) fNil))) (gTp 2 (gCs (gNm 2) (gCs (gNm 3) gNl)))) (fRet (fOp (oAdd false) (fVar 2) (fVar 3))))
def F_Table_literal_price (K : PySem.W.Frag) : Fn := (fRun 2 4 false (B_Table_literal_price K))
def B_number_before : FSt := (fRet (fIfE (fTest (fOp (oI0 fun i j => .bl (decide (j < i))) (fVar 1) (fC (.int 0)))) (fOp oIx (fVar 0) (fOp oSub (fVar 1) (fC (.int 1)))) (fC (.int 0))))
def F_number_before : Fn := (fRun 2 2 false (B_number_before))
def B_fewest_bits_6 (K : PySem.W.Frag) : FSt := (fFrz 6 (fFrz 5 (fRet (fTup (fCons (fOp oIx (fVar 5) (fC (.int 0))) (fCons (fVar 6) fNil))))))
def B_fewest_bits_5 (K : PySem.W.Frag) : FSt := (fSeq (fFor (iRevR1 (fCB cLen (fCons (fVar 0) fNil))) (gNm 8) (fSeq (fAsg (fIfE (fTest (fOp oEq (fOp oIx (fVar 0) (fVar 8)) (fDef [false, false] F_number_before [] (fCons (fVar 0) (fCons (fVar 8) fNil))))) (fOp (oAdd false) (fVar 7) (fC (.int 1))) (fC (.int 0))) (gNm 7)) (fSeq (fSet (fVar 5) (fVar 8) (fOp (oAdd false) (fOp oIx (fVar 2) (fVar 8)) (fOp oIx (fVar 5) (fOp (oAdd false) (fVar 8) (fC (.int 1)))))) (fSeq (fAsg (fCB cMin2 (fCons (fVar 7) (fCons (fMet (He.ga K "Table") "most_repeated" (FRL.F_Table_most_repeated K) [] (fVar 1) fNil) fNil))) (gNm 9)) (fSeq (fAsg (fOp (oAdd false) (fVar 4) (fOp oIx (fVar 5) (fOp (oAdd false) (fVar 8) (fVar 9)))) (gNm 10)) (fIf (fOr (fTest (fOp (oI0 fun i j => .bl (decide (i < j))) (fVar 10) (fOp oIx (fVar 5) (fVar 8)))) (fAnd (fTest (fOp oEqD (fVar 10) (fOp oIx (fVar 5) (fVar 8)))) (fTest (fOp (oI0 fun i j => .bl (decide (j < i))) (fVar 9) (fC (.int 1)))))) (fSeq (fSet (fVar 5) (fVar 8) (fVar 10)) (fSet (fVar 6) (fVar 8) (fVar 9))) fNext))))) [8, 9, 10]) (B_fewest_bits_6 K))
def B_fewest_bits_4 (K : PySem.W.Frag) : FSt := (fSeq (fAsg (fC (.int 0)) (gNm 7)) (B_fewest_bits_5 K))
def B_fewest_bits_3 (K : PySem.W.Frag) : FSt := (fSeq (fAsg (fOp (oRep true) (fLst false (fCons (fC (.int 0)) fNil)) (fCB cLen (fCons (fVar 0) fNil))) (gNm 6)) (B_fewest_bits_4 K))
def B_fewest_bits_2 (K : PySem.W.Frag) : FSt := (fSeq (fAsg (fOp (oRep true) (fLst false (fCons (fC (.int 0)) fNil)) (fOp (oAdd false) (fCB cLen (fCons (fVar 0) fNil)) (fC (.int 1)))) (gNm 5)) (B_fewest_bits_3 K))
def B_fewest_bits_1 (K : PySem.W.Frag) : FSt := (fSeq (fAsg (fMet (He.ga K "Table") "repetition_price" (F_Table_repetition_price K) [] (fVar 1) fNil) (gNm 4)) (B_fewest_bits_2 K))
def B_fewest_bits (K : PySem.W.Frag) : FSt := (fSeq (fAsg (fLc false (iFix (fVar 0)) (gNm 3) fYes (fMet (He.ga K "Table") "literal_price" (F_Table_literal_price K) [] (fVar 1) (fCons (fVar 3) fNil)) [3]) (gNm 2)) (B_fewest_bits_1 K))
def F_fewest_bits (K : PySem.W.Frag) : Fn := (fRun 2 11 false (B_fewest_bits K))
def B_least_tokens_4 (K : PySem.W.Frag) : FSt := (fFrz 4 (fRet (fCB cTuple (fCons (fVar 4) fNil))))
def B_least_tokens_3 (K : PySem.W.Frag) : FSt := (fSeq (fWhl 4096 (fTest (fOp (oI0 fun i j => .bl (decide (i < j))) (fVar 5) (fCB cLen (fCons (fVar 0) fNil)))) (fSeq (fAsg (fOp oIx (fVar 3) (fVar 5)) (gNm 6)) (fSeq (fApp (fVar 4) (fIfE (fTest (fOp (oI0 fun i j => .bl (decide (j < i))) (fVar 6) (fC (.int 0)))) (fTup (fCons (fC (.str "again")) (fCons (fVar 6) fNil))) (fTup (fCons (fC (.str "one")) (fCons (fOp oIx (fVar 0) (fVar 5)) fNil))))) (fAug 5 (fun i j => i + j) (fCB cMax2 (fCons (fVar 6) (fCons (fC (.int 1)) fNil)))))) [6]) (B_least_tokens_4 K))
def B_least_tokens_2 (K : PySem.W.Frag) : FSt := (fSeq (fAsg (fC (.int 0)) (gNm 5)) (B_least_tokens_3 K))
def B_least_tokens_1 (K : PySem.W.Frag) : FSt := (fSeq (fAsg (fLst true fNil) (gNm 4)) (B_least_tokens_2 K))
def B_least_tokens (K : PySem.W.Frag) : FSt := (fSeq (fAsg (fDef [false, false] (F_fewest_bits K) [] (fCons (fVar 0) (fCons (fVar 1) fNil))) (gTp 2 (gCs (gNm 2) (gCs (gNm 3) gNl)))) (B_least_tokens_1 K))
def F_least_tokens (K : PySem.W.Frag) : Fn := (fRun 2 7 false (B_least_tokens K))
def B_L_bits_of : FSt := (fSeq (fAsg (fC (.int 0)) (gNm 2)) (fSeq (fFor (iFix (fVar 0)) (gTp 2 (gCs (gNm 3) (gCs (gNm 4) gNl))) (fIf (fTest (fOp oEq (fVar 3) (fC (.str "one")))) (fAsg (fOp (oAdd false) (fVar 2) (fDef [false, false] F_L_size [] (fCons (fOp oIx (fVar 1) (fC (.int 0))) (fCons (fVar 4) fNil)))) (gNm 2)) (fAsg (fOp (oAdd false) (fOp (oAdd false) (fVar 2) (fOp oIx (fOp oIx (fVar 1) (fC (.int 1))) (fC (.int 0)))) (fOp oIx (fOp oIx (fVar 1) (fC (.int 1))) (fC (.int 1)))) (gNm 2))) [3, 4]) (fRet (fVar 2))))
def F_L_bits_of : Fn := (fRun 2 5 false (B_L_bits_of))
def B_L_coding_table : FSt := (fSeq (fIf (fTest (fOp oEq (fDef [true, false] FRL.F_L_draw [] (fCons (fVar 0) (fCons (fC (.int 3)) fNil))) (fC (.int 0)))) (fRet (fDef [false, false, false] FRL.F_L_ladder [] (fCons (fDef [true, false] FRL.F_L_draw [] (fCons (fVar 0) (fCons (fC (.int 17)) fNil))) (fCons (fOp oEq (fDef [true, false] FRL.F_L_draw [] (fCons (fVar 0) (fCons (fC (.int 2)) fNil))) (fC (.int 1))) (fCons (fDef [true] FRL.F_L_modulus [] (fCons (fVar 0) fNil)) fNil))))) fNext) (fRet (fDef [true] FRL.F_L_any_table [] (fCons (fVar 0) fNil))))
def F_L_coding_table : Fn := (fRun 1 1 false (B_L_coding_table))
def B_L_total : FSt := (fRet (fCB cSum (fCons (fLc false (iFix (fVar 0)) (gNm 1) fYes (fOp oShl (fC (.int 1)) (fOp oIx (fVar 1) (fC (.int 1)))) [1]) fNil)))
def F_L_total : Fn := (fRun 1 2 false (B_L_total))
def B_L_run_row_4 : FSt := (fFrz 3 (fRet (fVar 3)))
def B_L_run_row_3 : FSt := (fSeq (fFor (iR1 (fCons (fVar 2) fNil)) (gNm 5) (fSeq (fIf (fTest (fOp oEq (fDef [true, false] FRL.F_L_draw [] (fCons (fVar 0) (fCons (fC (.int 3)) fNil))) (fC (.int 0)))) (fAsg (fDef [true, false] FRL.F_L_draw [] (fCons (fVar 0) (fCons (fVar 1) fNil))) (gNm 4)) fNext) (fApp (fVar 3) (fVar 4))) [5]) B_L_run_row_4)
def B_L_run_row_2 : FSt := (fSeq (fAsg (fC (.int 0)) (gNm 4)) B_L_run_row_3)
def B_L_run_row_1 : FSt := (fSeq (fAsg (fLst true fNil) (gNm 3)) B_L_run_row_2)
def B_L_run_row : FSt := (fSeq (fAsg (fDef [true, false] FRL.F_L_draw [] (fCons (fVar 0) (fCons (fDef [true, false] FRL.F_L_pick [] (fCons (fVar 0) (fCons (fLst false (fCons (fC (.int 25)) (fCons (fC (.int 25)) (fCons (fC (.int 25)) (fCons (fC (.int 25)) (fCons (fC (.int 25)) (fCons (fC (.int 25)) (fCons (fC (.int 25)) (fCons (fC (.int 65)) fNil))))))))) fNil))) fNil))) (gNm 2)) B_L_run_row_1)
def F_L_run_row : Fn := (fRun 2 6 false (B_L_run_row))
def B_L_some_tokens_4 : FSt := (fFrz 3 (fRet (fVar 3)))
def B_L_some_tokens_3 : FSt := (fSeq (fFor (iR1 (fCons (fCB cLen (fCons (fVar 1) fNil)) fNil)) (gNm 6) (fIf (fTest (fOp (oI0 fun i j => .bl (decide (i < j))) (fVar 4) (fCB cLen (fCons (fVar 1) fNil)))) (fSeq (fAsg (fC (.int 0)) (gNm 7)) (fSeq (fFor (iFix (fSl false (fVar 1) (fPart (fVar 4)) fNoPart)) (gNm 8) (fSeq (fIf (fTest (fOp oNe (fVar 8) (fVar 5))) fBreak fNext) (fAsg (fOp (oAdd false) (fVar 7) (fC (.int 1))) (gNm 7))) [8]) (fSeq (fIf (fTest (fOp oNotN (fOp oIx (fVar 2) (fC (.int 1))) (fC .non))) (fAsg (fCB cMin2 (fCons (fVar 7) (fCons (fOp oShl (fC (.int 1)) (fOp oIx (fOp oIx (fVar 2) (fC (.int 1))) (fC (.int 1)))) fNil))) (gNm 7)) fNext) (fIf (fAnd (fTest (fOp oNotN (fOp oIx (fVar 2) (fC (.int 1))) (fC .non))) (fAnd (fTest (fOp (oI0 fun i j => .bl (decide (j < i))) (fVar 7) (fC (.int 0)))) (fTest (fOp oEq (fDef [true, false] FRL.F_L_draw [] (fCons (fVar 0) (fCons (fC (.int 2)) fNil))) (fC (.int 0)))))) (fSeq (fAsg (fOp (oAdd false) (fC (.int 1)) (fDef [true, false] FRL.F_L_draw [] (fCons (fVar 0) (fCons (fVar 7) fNil)))) (gNm 9)) (fSeq (fApp (fVar 3) (fTup (fCons (fC (.str "again")) (fCons (fVar 9) fNil)))) (fAsg (fOp (oAdd false) (fVar 4) (fVar 9)) (gNm 4)))) (fSeq (fAsg (fOp oIx (fVar 1) (fVar 4)) (gNm 5)) (fSeq (fApp (fVar 3) (fTup (fCons (fC (.str "one")) (fCons (fVar 5) fNil)))) (fAsg (fOp (oAdd false) (fVar 4) (fC (.int 1))) (gNm 4)))))))) fNext) [6, 7, 8, 9]) B_L_some_tokens_4)
def B_L_some_tokens_2 : FSt := (fSeq (fAsg (fC (.int 0)) (gNm 5)) B_L_some_tokens_3)
def B_L_some_tokens_1 : FSt := (fSeq (fAsg (fC (.int 0)) (gNm 4)) B_L_some_tokens_2)
def B_L_some_tokens : FSt := (fSeq (fAsg (fLst true fNil) (gNm 3)) B_L_some_tokens_1)
def F_L_some_tokens : Fn := (fRun 3 10 false (B_L_some_tokens))
def B_price (K : PySem.W.Frag) : FSt := (fSeq (fAsg (fDef [false, false] (F_fewest_bits K) [] (fCons (fVar 0) (fCons (fVar 1) fNil))) (gTp 2 (gCs (gNm 2) (gCs (gNm 3) gNl)))) (fRet (fVar 2)))
def F_price (K : PySem.W.Frag) : Fn := (fRun 2 4 false (B_price K))
def B_L_wins : FSt := (fSeq (fFor (iR1 (fCons (fCB cMin2 (fCons (fCB cLen (fCons (fVar 0) fNil)) (fCons (fCB cLen (fCons (fVar 1) fNil)) fNil))) fNil)) (gNm 2) (fIf (fTest (fOp oNeD (fOp oIx (fVar 0) (fVar 2)) (fOp oIx (fVar 1) (fVar 2)))) (fSeq (fAsg (fLst true (fCons (fC (.int 1)) (fCons (fC (.int 1)) fNil))) (gNm 3)) (fSeq (fIf (fTest (fOp oEq (fOp oIx (fOp oIx (fVar 0) (fVar 2)) (fC (.int 0))) (fC (.str "again")))) (fSet (fVar 3) (fC (.int 0)) (fOp oIx (fOp oIx (fVar 0) (fVar 2)) (fC (.int 1)))) fNext) (fSeq (fIf (fTest (fOp oEq (fOp oIx (fOp oIx (fVar 1) (fVar 2)) (fC (.int 0))) (fC (.str "again")))) (fSet (fVar 3) (fC (.int 1)) (fOp oIx (fOp oIx (fVar 1) (fVar 2)) (fC (.int 1)))) fNext) (fFrz 3 (fRet (fOrV (fOp (oI0 fun i j => .bl (decide (j < i))) (fOp oIx (fVar 3) (fC (.int 0))) (fOp oIx (fVar 3) (fC (.int 1)))) (fAndV (fOp oEq (fOp oIx (fVar 3) (fC (.int 0))) (fOp oIx (fVar 3) (fC (.int 1)))) (fOp oEq (fOp oIx (fOp oIx (fVar 0) (fVar 2)) (fC (.int 0))) (fC (.str "one")))))))))) fNext) [2, 3]) (fRet (fOp oEq (fCB cLen (fCons (fVar 0) fNil)) (fCB cLen (fCons (fVar 1) fNil)))))
def F_L_wins : Fn := (fRun 2 4 false (B_L_wins))
def B_law_15 (K : PySem.W.Frag) : FSt := (fRet (fOp oEqD (fVar 7) (fVar 2)))
def B_law_14 (K : PySem.W.Frag) : FSt := (fSeq (fIf (fOr (fNot (fTest (fDef [false, false] (FRL.F_L_same 8) [] (fCons (fDef [false, false] (F_least_tokens K) [] (fCons (fVar 7) (fCons (fVar 6) fNil))) (fCons (fVar 8) fNil))))) (fNot (fTest (fDef [false, false] (FRL.F_L_same 8) [] (fCons (fDef [false, false] (F_price K) [] (fCons (fVar 7) (fCons (fVar 6) fNil))) (fCons (fVar 9) fNil)))))) (fRet (fC (.bl false))) fNext) (B_law_15 K))
def B_law_13 (K : PySem.W.Frag) : FSt := (fSeq (fIf (fOr (fNot (fTest (fDef [false, false] (FRL.F_L_same 8) [] (fCons (fDef [false, false] (F_price K) [] (fCons (fCB (cList false) (fCons (fVar 12) fNil)) (fCons (fVar 6) fNil))) (fCons (fVar 14) fNil))))) (fNot (fTest (fDef [false, false] (FRL.F_L_same 8) [] (fCons (fDef [false, false] (F_least_tokens K) [] (fCons (fCB (cList false) (fCons (fVar 12) fNil)) (fCons (fVar 6) fNil))) (fCons (fVar 13) fNil)))))) (fRet (fC (.bl false))) fNext) (B_law_14 K))
def B_law_12 (K : PySem.W.Frag) : FSt := (fSeq (fAsg (fDef [false, false] F_L_least [] (fCons (fVar 12) (fCons (fVar 1) fNil))) (gTp 2 (gCs (gNm 13) (gCs (gNm 14) gNl)))) (B_law_13 K))
def B_law_11 (K : PySem.W.Frag) : FSt := (fSeq (fAsg (fOp (oAdd false) (fRevL false (fVar 2)) (fLst false (fCons (fC (.int 0)) (fCons (fC (.int 0)) fNil)))) (gNm 12)) (B_law_12 K))
def B_law_10 (K : PySem.W.Frag) : FSt := (fSeq (fIf (fOr (fTest (fOp (oI0 fun i j => .bl (decide (i < j))) (fVar 11) (fVar 9))) (fAnd (fTest (fOp oEqD (fVar 11) (fVar 9))) (fNot (fTest (fDef [false, false] F_L_wins [] (fCons (fVar 10) (fCons (fVar 3) fNil))))))) (fRet (fC (.bl false))) fNext) (B_law_11 K))
def B_law_9 (K : PySem.W.Frag) : FSt := (fSeq (fAsg (fDef [false, false] F_L_bits_of [] (fCons (fVar 3) (fCons (fVar 1) fNil))) (gNm 11)) (B_law_10 K))
def B_law_8 (K : PySem.W.Frag) : FSt := (fSeq (fIf (fOr (fNot (fTest (fDef [false, false] (FRL.F_L_same 8) [] (fCons (fVar 10) (fCons (fVar 8) fNil))))) (fNot (fTest (fDef [false, false] (FRL.F_L_same 8) [] (fCons (fDef [false, false] (F_price K) [] (fCons (fVar 7) (fCons (fVar 6) fNil))) (fCons (fVar 9) fNil)))))) (fRet (fC (.bl false))) fNext) (B_law_9 K))
def B_law_7 (K : PySem.W.Frag) : FSt := (fSeq (fAsg (fDef [false, false] (F_least_tokens K) [] (fCons (fVar 7) (fCons (fVar 6) fNil))) (gNm 10)) (B_law_8 K))
def B_law_6 (K : PySem.W.Frag) : FSt := (fSeq (fAsg (fDef [false, false] F_L_least [] (fCons (fVar 2) (fCons (fVar 1) fNil))) (gTp 2 (gCs (gNm 8) (gCs (gNm 9) gNl)))) (B_law_7 K))
def B_law_5 (K : PySem.W.Frag) : FSt := (fSeq (fAsg (fCB (cList false) (fCons (fVar 2) fNil)) (gNm 7)) (B_law_6 K))
def B_law_4 (K : PySem.W.Frag) : FSt := (fSeq (fAsg (fNew false (He.ga K "Table") [false, false] (FRL.F_Table_init K) [] (fCons (fCB (cList false) (fCons (fOp oIx (fVar 1) (fC (.int 0))) fNil)) (fCons (fOp oIx (fVar 1) (fC (.int 1))) fNil))) (gNm 6)) (B_law_5 K))
def B_law_3 (K : PySem.W.Frag) : FSt := (fSeq (fIf (fTest (fOp (oI0 fun i j => .bl (decide (j < i))) (fCB cLen (fCons (fVar 0) fNil)) (fC (.int 0)))) (fSeq (fAsg (fDef [true] F_L_coding_table [] (fCons (fDef [false, false] FRL.F_L_drawer [] (fCons (fVar 0) (fCons (fC (.int 0)) fNil))) fNil)) (gNm 1)) (fSeq (fAsg (fDef [false, false] FRL.F_L_drawer [] (fCons (fVar 0) (fCons (fC (.int 1)) fNil))) (gNm 4)) (fSeq (fAsg (fDef [false] F_L_total [] (fCons (fOp oIx (fVar 1) (fC (.int 0))) fNil)) (gNm 5)) (fSeq (fAsg (fDef [true, false] F_L_run_row [] (fCons (fVar 4) (fCons (fDef [true, false] FRL.F_L_pick [] (fCons (fVar 4) (fCons (fLst false (fCons (fVar 5) (fCons (fCB cMin2 (fCons (fVar 5) (fCons (fC (.int 3)) fNil))) fNil))) fNil))) fNil))) (gNm 2)) (fAsg (fDef [true, false, false] F_L_some_tokens [] (fCons (fDef [false, false] FRL.F_L_drawer [] (fCons (fVar 0) (fCons (fC (.int 2)) fNil))) (fCons (fVar 2) (fCons (fVar 1) fNil)))) (gNm 3)))))) fNext) (B_law_4 K))
def B_law_2 (K : PySem.W.Frag) : FSt := (fSeq (fAsg (fLst false (fCons (fTup (fCons (fC (.str "one")) (fCons (fC (.int 0)) fNil))) (fCons (fTup (fCons (fC (.str "one")) (fCons (fC (.int 0)) fNil))) (fCons (fTup (fCons (fC (.str "one")) (fCons (fC (.int 2)) fNil))) (fCons (fTup (fCons (fC (.str "one")) (fCons (fC (.int 2)) fNil))) (fCons (fTup (fCons (fC (.str "one")) (fCons (fC (.int 1)) fNil))) fNil)))))) (gNm 3)) (B_law_3 K))
def B_law_1 (K : PySem.W.Frag) : FSt := (fSeq (fAsg (fLst false (fCons (fC (.int 0)) (fCons (fC (.int 0)) (fCons (fC (.int 2)) (fCons (fC (.int 2)) (fCons (fC (.int 1)) fNil)))))) (gNm 2)) (B_law_2 K))
def B_law (K : PySem.W.Frag) : FSt := (fSeq (fAsg (fTup (fCons (fTup (fCons (fTup (fCons (fC (.int 1)) (fCons (fC (.int 1)) fNil))) (fCons (fTup (fCons (fC (.int 2)) (fCons (fC (.int 0)) fNil))) fNil))) (fCons (fTup (fCons (fC (.int 2)) (fCons (fC (.int 2)) fNil))) fNil))) (gNm 1)) (B_law_1 K))
def F_law (K : PySem.W.Frag) : Fn := (fRun 1 15 false (B_law K))
section
variable {P : Program} {w : World} {K : PySem.W.Frag} {mg : Str → Option Value} {base h : Heap}
theorem ok_NoRung_init (T : Txt K mg h) : OkI P w K mg base 1 (He.ma K (He.ga K "NoRung") "__init__") (He.ga K "NoRung") ["number"] := by
  obtain ⟨fd, F⟩ := T.s.def_ 36 (d := d_NoRung_init) rfl
  refine oki_of F sc_NoRung_init (fun _ _ _ _ _ _ us hl => match us, hl with | [_, _], _ => rfl) rfl (ox_NoRung T) (fun g hg => ?_) (m_NoRung_init T).at_ (beq_iff_eq.mp (m_NoRung_init T).fn) (by decide) (fun cdv A outer s H E => ⟨_, (pss_one (ps_ost (b_var (Wx := W0) 0).pe (b_var (Wx := W0) 1).pe)), fun vs Q h => init1 h⟩)
  simp only [List.mem_cons, List.not_mem_nil, or_false] at hg
  rcases hg with rfl
  · exact He.noat_ok (T.s.fact 62 (f := .noat "NoRung" "number") rfl)
theorem ok_rung_starts (T : Txt K mg h) : Ok P w K mg base 1 (He.ga K "rung_starts") ["rungs"] [] (fnFS (He.ga K) FRL.F_rung_starts) := by
  obtain ⟨fd, F⟩ := T.s.def_ 0 (d := d_rung_starts) rfl
  refine ok_fn F sc_rung_starts (fun _ _ _ _ _ _ us hl => match us, hl with | [_], _ => rfl) (fun xs μ P R h => fRun_len h) (fun cdv A outer s H E hr => ?_)
  have tk : Takes (cxOf (L2.CX P w) P w K mg base N_rung_starts "rung_starts" (defScope s_rung_starts) (He.ga K "rung_starts") cdv A outer s H E) (WxOf E) := takes_of rfl rfl rfl rfl
  exact ⟨_, _, (bs_cons (b_set 1 sc_rung_starts.nd rfl (by first | exact Or.inl rfl | exact Or.inr rfl) (b_lst (b_cons b_int b_nil))) (bs_cons (b_for (passes_of rfl) rfl (b_iS (b_sl (b_var 0) b_po_none (b_po (b_neg b_int)))) (b_gtup (n := 2) rfl (b_gcons (b_name 2 sc_rung_starts.nd rfl (by first | exact Or.inl rfl | exact Or.inr rfl)) (b_gcons (b_name 3 sc_rung_starts.nd rfl (by first | exact Or.inl rfl | exact Or.inr rfl)) b_gnil))) (bs_one (b_app (b_var 1) (b_add (b_ix (b_var 1) (b_neg b_int)) (b_shl b_int (b_var 3)))))) (bs_frzV 1 (bs_one (b_ret (b_cty call_tuple_of opc_tuple rfl (n_tuple (K := K) T) (by decide +kernel) (b_cons (b_var 1) b_nil))))))), fun xs μ P R h => fRun_ok (run_seq (run_asg (run_lst (run_cons run_c run_nil)) run_name) (run_seq (run_for (run_iS (run_sl (run_var (i := 0)) run_noPart (run_part (run_un run_U run_c)))) (run_gtup (run_gcons run_name (run_gcons run_name run_gnil))) (run_app (run_var (i := 1)) (run_op run_add (run_op run_ix (run_var (i := 1)) (run_un run_U run_c)) (run_op run_shl run_c (run_var (i := 3)))))) (run_frz (run_ret (run_cb run_tuple (run_cons (run_var (i := 1)) run_nil)))))) h⟩
theorem ok_bits_of (T : Txt K mg h) : Ok P w K mg base 1 (He.ga K "bits_of") ["number", "places"] [] (fnFS (He.ga K) FRL.F_bits_of) := by
  obtain ⟨fd, F⟩ := T.s.def_ 1 (d := d_bits_of) rfl
  refine ok_fn F sc_bits_of (fun _ _ _ _ _ _ us hl => match us, hl with | [_, _], _ => rfl) (fun xs μ P R h => fRun_len h) (fun cdv A outer s H E hr => ?_)
  have tk : Takes (cxOf (L2.CX P w) P w K mg base N_bits_of "bits_of" (defScope s_bits_of) (He.ga K "bits_of") cdv A outer s H E) (WxOf E) := takes_of rfl rfl rfl rfl
  exact ⟨_, _, (bs_cons (b_if (b_eqDTk (K := K) (hr.mono (Nat.le_refl _)) (b_var 1) b_int (nomark _)) (bs_one (b_ret b_str)) bs_nil) (bs_cons (b_set 2 sc_bits_of.nd rfl (by first | exact Or.inl rfl | exact Or.inr rfl) (b_fmB (b_var 0) (pe_joined1 (BE.pe (b_str (Wx := WxOf E)))))) (bs_one (b_ret (b_zfill (K := K) (b_var 2) (b_var 1)))))), fun xs μ P R h => fRun_ok (run_seq (run_if (run_test (run_op run_eqD (run_var (i := 1)) run_c)) (run_ret run_c) run_next) (run_seq (run_asg (run_fmB (run_var (i := 0))) run_name) (run_ret (run_zf (run_var (i := 2)) (run_var (i := 1)))))) h⟩
theorem ok_codewords (T : Txt K mg h) : Ok P w K mg base 2 (He.ga K "codewords") ["lengths"] [] (fnFS (He.ga K) FRL.F_codewords) := by
  obtain ⟨fd, F⟩ := T.s.def_ 2 (d := d_codewords) rfl
  refine ok_fn F sc_codewords (fun _ _ _ _ _ _ us hl => match us, hl with | [_], _ => rfl) (fun xs μ P R h => fRun_len h) (fun cdv A outer s H E hr => ?_)
  have tk : Takes (cxOf (L2.CX P w) P w K mg base N_codewords "codewords" (defScope s_codewords) (He.ga K "codewords") cdv A outer s H E) (WxOf E) := takes_of rfl rfl rfl rfl
  exact ⟨_, _, (bs_cons (b_set 1 sc_codewords.nd rfl (by first | exact Or.inl rfl | exact Or.inr rfl) (b_mul (b_lst (b_cons b_str b_nil)) (b_cb call_len opc_len rfl (n_len (K := K) T) (by decide +kernel) (b_cons (b_var 0) b_nil)))) (bs_cons (b_set 2 sc_codewords.nd rfl (by first | exact Or.inl rfl | exact Or.inr rfl) b_int) (bs_cons (b_set 3 sc_codewords.nd rfl (by first | exact Or.inl rfl | exact Or.inr rfl) b_int) (bs_cons (b_for (passes_of rfl) rfl (b_iS (b_cb cr_sortL opc_sortL rfl (n_sorted (K := K) T) (by decide +kernel) (b_cons (b_lc rfl sc_codewords.nd (b_iE rfl (n_enumerate (K := K) T) (b_cons (b_var 0) b_nil)) (blkOk_by (own := [("place", 5), ("length", 4)]) (N := N_codewords) rfl) (wipes_names2 (by decide) (by decide)) (fun _ _ _ _ _ => (b_gtup (n := 2) rfl (b_gcons (b_name 5 sc_codewords.nd rfl (by first | exact Or.inl rfl | exact Or.inr rfl)) (b_gcons (b_name 4 sc_codewords.nd rfl (by first | exact Or.inl rfl | exact Or.inr rfl)) b_gnil)))) (fun _ _ _ _ _ => b_noif) (fun _ _ _ _ _ => (b_tup (b_cons (b_var 4) (b_cons (b_var 5) b_nil))))) b_nil))) (b_gtup (n := 2) rfl (b_gcons (b_name 4 sc_codewords.nd rfl (by first | exact Or.inl rfl | exact Or.inr rfl)) (b_gcons (b_name 5 sc_codewords.nd rfl (by first | exact Or.inl rfl | exact Or.inr rfl)) b_gnil))) (bs_cons (b_set 2 sc_codewords.nd rfl (by first | exact Or.inl rfl | exact Or.inr rfl) (b_shl (b_var 2) (b_sub (b_var 4) (b_var 3)))) (bs_cons (b_setL (b_var 1) (b_var 5) (b_call (ok_bits_of (K := K) T) (hr.mono (by first | decide | omega)) rfl (g_bits_of (K := K) T) tk (b_cons (b_var 2) (b_cons (b_var 4) b_nil))) (pg_sub (BE.pe (Wx := WxOf E) (b_var 1)) (BE.pe (Wx := WxOf E) (b_var 5)) set_list)) (bs_cons (b_augA 2 sc_codewords.nd rfl (by first | exact Or.inl rfl | exact Or.inr rfl) b_int) (bs_one (b_set 3 sc_codewords.nd rfl (by first | exact Or.inl rfl | exact Or.inr rfl) (b_var 4))))))) (bs_frzV 1 (bs_one (b_ret (b_cty call_tuple_of opc_tuple rfl (n_tuple (K := K) T) (by decide +kernel) (b_cons (b_var 1) b_nil))))))))), fun xs μ P R h => fRun_ok (run_seq (run_asg (run_op run_rep (run_lst (run_cons run_c run_nil)) (run_cb run_len (run_cons (run_var (i := 0)) run_nil))) run_name) (run_seq (run_asg run_c run_name) (run_seq (run_asg run_c run_name) (run_seq (run_for (run_iS (run_cb run_sortL (run_cons (run_lc (run_iE (run_cons (run_var (i := 0)) run_nil)) (run_gtup (run_gcons run_name (run_gcons run_name run_gnil))) run_yes (run_tup (run_cons (run_var (i := 4)) (run_cons (run_var (i := 5)) run_nil)))) run_nil))) (run_gtup (run_gcons run_name (run_gcons run_name run_gnil))) (run_seq (run_asg (run_op run_shl (run_var (i := 2)) (run_op run_I0 (run_var (i := 4)) (run_var (i := 3)))) run_name) (run_seq (run_set (run_var (i := 1)) (run_var (i := 5)) (run_def (run_cons (run_var (i := 2)) (run_cons (run_var (i := 4)) run_nil)))) (run_seq (run_aug run_c) (run_asg (run_var (i := 4)) run_name))))) (run_frz (run_ret (run_cb run_tuple (run_cons (run_var (i := 1)) run_nil)))))))) h⟩
theorem ok_are_complete (T : Txt K mg h) : Ok P w K mg base 1 (He.ga K "are_complete") ["lengths"] [] (fnFS (He.ga K) (FRL.F_are_complete K)) := by
  obtain ⟨fd, F⟩ := T.s.def_ 3 (d := d_are_complete) rfl
  refine ok_fn F sc_are_complete (fun _ _ _ _ _ _ us hl => match us, hl with | [_], _ => rfl) (fun xs μ P R h => fRun_len h) (fun cdv A outer s H E hr => ?_)
  have tk : Takes (cxOf (L2.CX P w) P w K mg base N_are_complete "are_complete" (defScope s_are_complete) (He.ga K "are_complete") cdv A outer s H E) (WxOf E) := takes_of rfl rfl rfl rfl
  exact ⟨_, _, (bs_cons (b_if (b_not (b_val (b_cb (cr_all rfl) opc_all rfl (n_all (K := K) T) (by decide +kernel) (b_cons (b_lc rfl sc_are_complete.nd (b_iS (b_var 0)) (blkOk_by (own := [("length", 1)]) (N := N_are_complete) rfl) (wipes_name (by decide)) (fun _ _ _ _ _ => (b_name 1 sc_are_complete.nd rfl (by first | exact Or.inl rfl | exact Or.inr rfl))) (fun _ _ _ _ _ => b_noif) (fun _ _ _ _ _ => (b_chain op_le op2_I0 op_le op2_I0 b_int (b_var 1) (b_cint (ci_Table_LONGEST (K := K) T) rfl (g_Table (K := K) T))))) b_nil)))) (bs_one (b_ret b_bl)) bs_nil) (bs_one (b_ret (b_cmp op_eq op2_eq (b_cb (cr_sum rfl) opc_sum rfl (n_sum (K := K) T) (by decide +kernel) (b_cons (b_lc rfl sc_are_complete.nd (b_iS (b_var 0)) (blkOk_by (own := [("length", 1)]) (N := N_are_complete) rfl) (wipes_name (by decide)) (fun _ _ _ _ _ => (b_name 1 sc_are_complete.nd rfl (by first | exact Or.inl rfl | exact Or.inr rfl))) (fun _ _ _ _ _ => b_noif) (fun _ _ _ _ _ => (b_shl b_int (b_sub (b_cint (ci_Table_LONGEST (K := K) T) rfl (g_Table (K := K) T)) (b_var 1))))) b_nil)) (b_shl b_int (b_cint (ci_Table_LONGEST (K := K) T) rfl (g_Table (K := K) T))) (nomark _))))), fun xs μ P R h => fRun_ok (run_seq (run_if (run_not (run_test (run_cb run_all (run_cons (run_lc (run_iS (run_var (i := 0))) run_name run_yes (run_chain run_I0 run_I0 run_c (run_var (i := 1)) run_c)) run_nil)))) (run_ret run_c) run_next) (run_ret (run_op run_eq (run_cb run_sum (run_cons (run_lc (run_iS (run_var (i := 0))) run_name run_yes (run_op run_shl run_c (run_op run_I0 run_c (run_var (i := 1))))) run_nil)) (run_op run_shl run_c run_c)))) h⟩
theorem ok_entries_of (T : Txt K mg h) : Ok P w K mg base 1 (He.ga K "entries_of") ["rungs", "repeat"] [] (fnFS (He.ga K) FRL.F_entries_of) := by
  obtain ⟨fd, F⟩ := T.s.def_ 4 (d := d_entries_of) rfl
  refine ok_fn F sc_entries_of (fun _ _ _ _ _ _ us hl => match us, hl with | [_, _], _ => rfl) (fun xs μ P R h => fRun_len h) (fun cdv A outer s H E hr => ?_)
  have tk : Takes (cxOf (L2.CX P w) P w K mg base N_entries_of "entries_of" (defScope s_entries_of) (He.ga K "entries_of") cdv A outer s H E) (WxOf E) := takes_of rfl rfl rfl rfl
  exact ⟨_, _, (bs_one (b_ret (b_ifE (b_cmpT op_isN op2_isN (b_var 1) b_non (nomark _)) (b_cty call_list_of opc_list rfl (n_list (K := K) T) (by decide +kernel) (b_cons (b_var 0) b_nil)) (b_lst (b_star (b_var 0) (b_cons (b_var 1) b_nil)))))), fun xs μ P R h => fRun_ok (run_ret (run_ifE (run_test (run_op run_isN (run_var (i := 1)) run_c)) (run_cb run_list (run_cons (run_var (i := 0)) run_nil)) (run_lst (run_star (run_var (i := 0)) (run_cons (run_var (i := 1)) run_nil))))) h⟩
theorem ok_can_be_table (T : Txt K mg h) : Ok P w K mg base 2 (He.ga K "can_be_table") ["rungs", "repeat"] [] (fnFS (He.ga K) (FRL.F_can_be_table K)) := by
  obtain ⟨fd, F⟩ := T.s.def_ 5 (d := d_can_be_table) rfl
  refine ok_fn F sc_can_be_table (fun _ _ _ _ _ _ us hl => match us, hl with | [_, _], _ => rfl) (fun xs μ P R h => fRun_len h) (fun cdv A outer s H E hr => ?_)
  have tk : Takes (cxOf (L2.CX P w) P w K mg base N_can_be_table "can_be_table" (defScope s_can_be_table) (He.ga K "can_be_table") cdv A outer s H E) (WxOf E) := takes_of rfl rfl rfl rfl
  exact ⟨_, _, (bs_cons (b_if (b_not (b_chainT op_le op2_I0 op_le op2_I0 b_int (b_cb call_len opc_len rfl (n_len (K := K) T) (by decide +kernel) (b_cons (b_var 0) b_nil)) b_int)) (bs_one (b_ret b_bl)) bs_nil) (bs_cons (b_if (b_not (b_val (b_cb (cr_all rfl) opc_all rfl (n_all (K := K) T) (by decide +kernel) (b_cons (b_lc rfl sc_can_be_table.nd (b_iS (b_var 0)) (blkOk_by (own := [("_", 2), ("width", 3)]) (N := N_can_be_table) rfl) (wipes_names2 (by decide) (by decide)) (fun _ _ _ _ _ => (b_gtup (n := 2) rfl (b_gcons (b_name 2 sc_can_be_table.nd rfl (by first | exact Or.inl rfl | exact Or.inr rfl)) (b_gcons (b_name 3 sc_can_be_table.nd rfl (by first | exact Or.inl rfl | exact Or.inr rfl)) b_gnil)))) (fun _ _ _ _ _ => b_noif) (fun _ _ _ _ _ => (b_chain op_le op2_I0 op_le op2_I0 b_int (b_var 3) b_int))) b_nil)))) (bs_one (b_ret b_bl)) bs_nil) (bs_cons (b_if (BW.t (b_and (b_cmpT op_notN op2_notN (b_var 1) b_non (nomark _)) (b_and1 (b_not (b_chainT op_le op2_I0 op_le op2_I0 b_int (b_ix (b_var 1) b_int) b_int))))) (bs_one (b_ret b_bl)) bs_nil) (bs_one (b_ret (b_call (ok_are_complete (K := K) T) (hr.mono (by first | decide | omega)) rfl (g_are_complete (K := K) T) tk (b_cons (b_lc rfl sc_can_be_table.nd (b_iS (b_call (ok_entries_of (K := K) T) (hr.mono (by first | decide | omega)) rfl (g_entries_of (K := K) T) tk (b_cons (b_var 0) (b_cons (b_var 1) b_nil)))) (blkOk_by (own := [("length", 4), ("_", 2)]) (N := N_can_be_table) rfl) (wipes_names2 (by decide) (by decide)) (fun _ _ _ _ _ => (b_gtup (n := 2) rfl (b_gcons (b_name 4 sc_can_be_table.nd rfl (by first | exact Or.inl rfl | exact Or.inr rfl)) (b_gcons (b_name 2 sc_can_be_table.nd rfl (by first | exact Or.inl rfl | exact Or.inr rfl)) b_gnil)))) (fun _ _ _ _ _ => b_noif) (fun _ _ _ _ _ => (b_var 4))) b_nil))))))), fun xs μ P R h => fRun_ok (run_seq (run_if (run_not (run_test (run_chain run_I0 run_I0 run_c (run_cb run_len (run_cons (run_var (i := 0)) run_nil)) run_c))) (run_ret run_c) run_next) (run_seq (run_if (run_not (run_test (run_cb run_all (run_cons (run_lc (run_iS (run_var (i := 0))) (run_gtup (run_gcons run_name (run_gcons run_name run_gnil))) run_yes (run_chain run_I0 run_I0 run_c (run_var (i := 3)) run_c)) run_nil)))) (run_ret run_c) run_next) (run_seq (run_if (run_and (run_test (run_op run_notN (run_var (i := 1)) run_c)) (run_not (run_test (run_chain run_I0 run_I0 run_c (run_op run_ix (run_var (i := 1)) run_c) run_c)))) (run_ret run_c) run_next) (run_ret (run_def (run_cons (run_lc (run_iS (run_def (run_cons (run_var (i := 0)) (run_cons (run_var (i := 1)) run_nil)))) (run_gtup (run_gcons run_name (run_gcons run_name run_gnil))) run_yes (run_var (i := 4))) run_nil)))))) h⟩
theorem ok_Table_init_0 (T : Txt K mg h) : Ok P w K mg base 3 (He.ma K (He.ga K "Table") "__init__") ["self", "rungs", "repeat"] [] (fnFS (He.ga K) (FRL.F_Table_init K)) := by
  obtain ⟨fd, F⟩ := T.s.def_ 6 (d := d_Table_init) rfl
  refine ok_fnD (dvs := [.non]) F sc_Table_init 3 1 (by decide) rfl (fun _ _ _ _ _ _ _ us its hl hl2 => match us, its, hl, hl2 with | [_, _, _], [_], _, _ => ⟨_, rfl, rfl⟩) (fun xs μ P R h => fRun_len h) (fun cdv A outer s H E hr => ?_)
  have tk : Takes (cxOf (L2.CX P w) P w K mg base N_Table_init "Table.__init__" (defScope s_Table_init) (He.ma K (He.ga K "Table") "__init__") cdv A outer s H E) (WxOf E) := takes_of rfl rfl rfl rfl
  exact ⟨_, _, (bs_cons (b_if (b_not (b_val (b_call (ok_can_be_table (K := K) T) (hr.mono (by first | decide | omega)) rfl (g_can_be_table (K := K) T) tk (b_cons (b_var 1) (b_cons (b_var 2) b_nil))))) (bs_one (b_raise0 PySem.F.excBase_ValueError (He.exc_ok (T.s.fact 20 (f := .exc "BadTable") rfl)) rfl (g_BadTable (K := K) T) rfl tk)) bs_nil) (bs_cons (b_fldSC (fo_Table_rungs (K := K) T) (b_var 0) (b_cty call_tuple_of opc_tuple rfl (n_tuple (K := K) T) (by decide +kernel) (b_cons (b_var 1) b_nil))) (bs_cons (b_fldSC (fo_Table_repeat (K := K) T) (b_var 0) (b_var 2)) (bs_cons (b_fldSC (fo_Table_starts (K := K) T) (b_var 0) (b_call (ok_rung_starts (K := K) T) (hr.mono (by first | decide | omega)) rfl (g_rung_starts (K := K) T) tk (b_cons (b_fldC (fo_Table_rungs (K := K) T) (b_var 0)) b_nil))) (bs_cons (b_fldSC (fo_Table_total (K := K) T) (b_var 0) (b_add (b_ix (b_fldC (fo_Table_starts (K := K) T) (b_var 0)) (b_neg b_int)) (b_shl b_int (b_ix (b_ix (b_fldC (fo_Table_rungs (K := K) T) (b_var 0)) (b_neg b_int)) b_int)))) (bs_one (b_fldSC (fo_Table_words (K := K) T) (b_var 0) (b_call (ok_codewords (K := K) T) (hr.mono (by first | decide | omega)) rfl (g_codewords (K := K) T) tk (b_cons (b_lc rfl sc_Table_init.nd (b_iS (b_call (ok_entries_of (K := K) T) (hr.mono (by first | decide | omega)) rfl (g_entries_of (K := K) T) tk (b_cons (b_fldC (fo_Table_rungs (K := K) T) (b_var 0)) (b_cons (b_var 2) b_nil)))) (blkOk_by (own := [("length", 3), ("_", 4)]) (N := N_Table_init) rfl) (wipes_names2 (by decide) (by decide)) (fun _ _ _ _ _ => (b_gtup (n := 2) rfl (b_gcons (b_name 3 sc_Table_init.nd rfl (by first | exact Or.inl rfl | exact Or.inr rfl)) (b_gcons (b_name 4 sc_Table_init.nd rfl (by first | exact Or.inl rfl | exact Or.inr rfl)) b_gnil)))) (fun _ _ _ _ _ => b_noif) (fun _ _ _ _ _ => (b_var 3))) b_nil))))))))), fun xs μ P R h => fRun_ok (run_seq (run_if (run_not (run_test (run_def (run_cons (run_var (i := 1)) (run_cons (run_var (i := 2)) run_nil))))) run_raise0 run_next) (run_seq (run_fldS (run_var (i := 0)) (run_cb run_tuple (run_cons (run_var (i := 1)) run_nil))) (run_seq (run_fldS (run_var (i := 0)) (run_var (i := 2))) (run_seq (run_fldS (run_var (i := 0)) (run_def (run_cons (run_fld (run_var (i := 0))) run_nil))) (run_seq (run_fldS (run_var (i := 0)) (run_op run_add (run_op run_ix (run_fld (run_var (i := 0))) (run_un run_U run_c)) (run_op run_shl run_c (run_op run_ix (run_op run_ix (run_fld (run_var (i := 0))) (run_un run_U run_c)) run_c)))) (run_fldS (run_var (i := 0)) (run_def (run_cons (run_lc (run_iS (run_def (run_cons (run_fld (run_var (i := 0))) (run_cons (run_var (i := 2)) run_nil)))) (run_gtup (run_gcons run_name (run_gcons run_name run_gnil))) run_yes (run_var (i := 3))) run_nil)))))))) h⟩
theorem ok_L_longest (T : Txt K mg h) : Ok P w K mg base 1 (He.ga K "_law_longest") ["row", "place", "repeat"] [] (fnFS (He.ga K) F_L_longest) := by
  obtain ⟨fd, F⟩ := T.s.def_ 7 (d := d_L_longest) rfl
  refine ok_fn F sc_L_longest (fun _ _ _ _ _ _ us hl => match us, hl with | [_, _, _], _ => rfl) (fun xs μ P R h => fRun_len h) (fun cdv A outer s H E hr => ?_)
  have tk : Takes (cxOf (L2.CX P w) P w K mg base N_L_longest "_law_longest" (defScope s_L_longest) (He.ga K "_law_longest") cdv A outer s H E) (WxOf E) := takes_of rfl rfl rfl rfl
  exact ⟨_, _, (bs_cons (b_if (b_cmpT op_isN op2_isN (b_var 2) b_non (nomark _)) (bs_one (b_ret b_int)) bs_nil) (bs_cons (b_set 3 sc_L_longest.nd rfl (by first | exact Or.inl rfl | exact Or.inr rfl) (b_ix (b_add (b_lst (b_cons b_int b_nil)) (b_var 0)) (b_var 1))) (bs_cons (b_set 4 sc_L_longest.nd rfl (by first | exact Or.inl rfl | exact Or.inr rfl) b_int) (bs_cons (b_for (passes_of rfl) rfl (b_iS (b_sl (b_var 0) (b_po (b_var 1)) b_po_none)) (b_name 5 sc_L_longest.nd rfl (by first | exact Or.inl rfl | exact Or.inr rfl)) (bs_cons (b_if (b_cmpT op_ne op2_ne (b_var 5) (b_var 3) (nomark _)) (bs_one b_break) bs_nil) (bs_one (b_set 4 sc_L_longest.nd rfl (by first | exact Or.inl rfl | exact Or.inr rfl) (b_add (b_var 4) b_int))))) (bs_one (b_ret (b_cb (call_min2 rfl) opc_min2 rfl (n_min (K := K) T) (by decide +kernel) (b_cons (b_var 4) (b_cons (b_shl b_int (b_ix (b_var 2) b_int)) b_nil))))))))), fun xs μ P R h => fRun_ok (run_seq (run_if (run_test (run_op run_isN (run_var (i := 2)) run_c)) (run_ret run_c) run_next) (run_seq (run_asg (run_op run_ix (run_op run_add (run_lst (run_cons run_c run_nil)) (run_var (i := 0))) (run_var (i := 1))) run_name) (run_seq (run_asg run_c run_name) (run_seq (run_for (run_iS (run_sl (run_var (i := 0)) (run_part (run_var (i := 1))) run_noPart)) run_name (run_seq (run_if (run_test (run_op run_ne (run_var (i := 5)) (run_var (i := 3)))) run_break run_next) (run_asg (run_op run_add (run_var (i := 4)) run_c) run_name))) (run_ret (run_cb run_min2 (run_cons (run_var (i := 4)) (run_cons (run_op run_shl run_c (run_op run_ix (run_var (i := 2)) run_c)) run_nil)))))))) h⟩
theorem ok_L_size (T : Txt K mg h) : Ok P w K mg base 1 (He.ga K "_law_size") ["rungs", "number"] [] (fnFS (He.ga K) F_L_size) := by
  obtain ⟨fd, F⟩ := T.s.def_ 8 (d := d_L_size) rfl
  refine ok_fn F sc_L_size (fun _ _ _ _ _ _ us hl => match us, hl with | [_, _], _ => rfl) (fun xs μ P R h => fRun_len h) (fun cdv A outer s H E hr => ?_)
  have tk : Takes (cxOf (L2.CX P w) P w K mg base N_L_size "_law_size" (defScope s_L_size) (He.ga K "_law_size") cdv A outer s H E) (WxOf E) := takes_of rfl rfl rfl rfl
  exact ⟨_, _, (bs_cons (b_set 2 sc_L_size.nd rfl (by first | exact Or.inl rfl | exact Or.inr rfl) b_int) (bs_cons (b_set 3 sc_L_size.nd rfl (by first | exact Or.inl rfl | exact Or.inr rfl) b_int) (bs_cons (b_for (passes_of rfl) rfl (b_iS (b_var 0)) (b_gtup (n := 2) rfl (b_gcons (b_name 4 sc_L_size.nd rfl (by first | exact Or.inl rfl | exact Or.inr rfl)) (b_gcons (b_name 5 sc_L_size.nd rfl (by first | exact Or.inl rfl | exact Or.inr rfl)) b_gnil))) (bs_cons (b_if (b_chainT op_le op2_I0 op_lt op2_I0 (b_var 2) (b_var 1) (b_add (b_var 2) (b_shl b_int (b_var 5)))) (bs_one (b_set 3 sc_L_size.nd rfl (by first | exact Or.inl rfl | exact Or.inr rfl) (b_add (b_var 4) (b_var 5)))) bs_nil) (bs_one (b_set 2 sc_L_size.nd rfl (by first | exact Or.inl rfl | exact Or.inr rfl) (b_add (b_var 2) (b_shl b_int (b_var 5))))))) (bs_one (b_ret (b_var 3)))))), fun xs μ P R h => fRun_ok (run_seq (run_asg run_c run_name) (run_seq (run_asg run_c run_name) (run_seq (run_for (run_iS (run_var (i := 0))) (run_gtup (run_gcons run_name (run_gcons run_name run_gnil))) (run_seq (run_if (run_test (run_chain run_I0 run_I0 (run_var (i := 2)) (run_var (i := 1)) (run_op run_add (run_var (i := 2)) (run_op run_shl run_c (run_var (i := 5)))))) (run_asg (run_op run_add (run_var (i := 4)) (run_var (i := 5))) run_name) run_next) (run_asg (run_op run_add (run_var (i := 2)) (run_op run_shl run_c (run_var (i := 5)))) run_name))) (run_ret (run_var (i := 3)))))) h⟩
theorem ok_L_least (T : Txt K mg h) : Ok P w K mg base 2 (He.ga K "_law_least") ["row", "parts"] [] (fnFS (He.ga K) F_L_least) := by
  obtain ⟨fd, F⟩ := T.s.def_ 9 (d := d_L_least) rfl
  refine ok_fn F sc_L_least (fun _ _ _ _ _ _ us hl => match us, hl with | [_, _], _ => rfl) (fun xs μ P R h => fRun_len h) (fun cdv A outer s H E hr => ?_)
  have tk : Takes (cxOf (L2.CX P w) P w K mg base N_L_least "_law_least" (defScope s_L_least) (He.ga K "_law_least") cdv A outer s H E) (WxOf E) := takes_of rfl rfl rfl rfl
  exact ⟨_, _, (bs_cons (b_set 2 sc_L_least.nd rfl (by first | exact Or.inl rfl | exact Or.inr rfl) (b_cb call_len opc_len rfl (n_len (K := K) T) (by decide +kernel) (b_cons (b_var 0) b_nil))) (bs_cons (b_set 3 sc_L_least.nd rfl (by first | exact Or.inl rfl | exact Or.inr rfl) (b_mul (b_lst (b_cons b_int b_nil)) (b_add (b_var 2) b_int))) (bs_cons (b_set 4 sc_L_least.nd rfl (by first | exact Or.inl rfl | exact Or.inr rfl) (b_mul (b_lst (b_cons b_int b_nil)) (b_var 2))) (bs_cons (b_for (passes_of rfl) rfl (b_iR1 rfl (n_range (K := K) T) (b_cons (b_var 2) b_nil)) (b_name 5 sc_L_least.nd rfl (by first | exact Or.inl rfl | exact Or.inr rfl)) (bs_cons (b_set 6 sc_L_least.nd rfl (by first | exact Or.inl rfl | exact Or.inr rfl) (b_sub (b_sub (b_var 2) b_int) (b_var 5))) (bs_cons (b_set 7 sc_L_least.nd rfl (by first | exact Or.inl rfl | exact Or.inr rfl) (b_add (b_call (ok_L_size (K := K) T) (hr.mono (by first | decide | omega)) rfl (g_L_size (K := K) T) tk (b_cons (b_ix (b_var 1) b_int) (b_cons (b_ix (b_var 0) (b_var 6)) b_nil))) (b_ix (b_var 3) (b_add (b_var 6) b_int)))) (bs_cons (b_set 8 sc_L_least.nd rfl (by first | exact Or.inl rfl | exact Or.inr rfl) (b_call (ok_L_longest (K := K) T) (hr.mono (by first | decide | omega)) rfl (g_L_longest (K := K) T) tk (b_cons (b_var 0) (b_cons (b_var 6) (b_cons (b_ix (b_var 1) b_int) b_nil))))) (bs_cons (b_if (b_cmpT op_gt op2_I0 (b_var 8) b_int (nomark _)) (bs_cons (b_set 9 sc_L_least.nd rfl (by first | exact Or.inl rfl | exact Or.inr rfl) (b_add (b_add (b_ix (b_ix (b_var 1) b_int) b_int) (b_ix (b_ix (b_var 1) b_int) b_int)) (b_ix (b_var 3) (b_add (b_var 6) (b_var 8))))) (bs_one (b_if (BW.t (b_or (b_cmpT op_lt op2_I0 (b_var 9) (b_var 7) (nomark _)) (b_or1 (BW.t (b_and (b_eqDTk (K := K) (hr.mono (Nat.le_refl _)) (b_var 9) (b_var 7) (nomark _)) (b_and1 (b_cmpT op_gt op2_I0 (b_var 8) b_int (nomark _)))))))) (bs_cons (b_set 7 sc_L_least.nd rfl (by first | exact Or.inl rfl | exact Or.inr rfl) (b_var 9)) (bs_one (b_setL (b_var 4) (b_var 6) (b_var 8) (pg_sub (BE.pe (Wx := WxOf E) (b_var 4)) (BE.pe (Wx := WxOf E) (b_var 6)) set_list)))) bs_nil))) bs_nil) (bs_one (b_setL (b_var 3) (b_var 6) (b_var 7) (pg_sub (BE.pe (Wx := WxOf E) (b_var 3)) (BE.pe (Wx := WxOf E) (b_var 6)) set_list)))))))) (bs_frzV 4 (bs_frzV 3 (bs_cons (b_set 10 sc_L_least.nd rfl (by first | exact Or.inl rfl | exact Or.inr rfl) (b_lst b_nil)) (bs_cons (b_set 6 sc_L_least.nd rfl (by first | exact Or.inl rfl | exact Or.inr rfl) b_int) (bs_cons (b_for (passes_of rfl) rfl (b_iR1 rfl (n_range (K := K) T) (b_cons (b_var 2) b_nil)) (b_name 11 sc_L_least.nd rfl (by first | exact Or.inl rfl | exact Or.inr rfl)) (bs_one (b_if (BW.t (b_and (b_cmpT op_lt op2_I0 (b_var 6) (b_var 2) (nomark _)) (b_and1 (b_cmpT op_gt op2_I0 (b_ix (b_var 4) (b_var 6)) b_int (nomark _))))) (bs_cons (b_app (b_var 10) (b_tup (b_cons b_str (b_cons (b_ix (b_var 4) (b_var 6)) b_nil)))) (bs_one (b_set 6 sc_L_least.nd rfl (by first | exact Or.inl rfl | exact Or.inr rfl) (b_add (b_var 6) (b_ix (b_var 4) (b_var 6)))))) (bs_one (b_if (b_cmpT op_lt op2_I0 (b_var 6) (b_var 2) (nomark _)) (bs_cons (b_app (b_var 10) (b_tup (b_cons b_str (b_cons (b_ix (b_var 0) (b_var 6)) b_nil)))) (bs_one (b_set 6 sc_L_least.nd rfl (by first | exact Or.inl rfl | exact Or.inr rfl) (b_add (b_var 6) b_int)))) bs_nil))))) (bs_frzV 10 (bs_one (b_ret (b_tup (b_cons (b_cty call_tuple_of opc_tuple rfl (n_tuple (K := K) T) (by decide +kernel) (b_cons (b_var 10) b_nil)) (b_cons (b_ix (b_var 3) b_int) b_nil))))))))))))))), fun xs μ P R h => fRun_ok (run_seq (run_asg (run_cb run_len (run_cons (run_var (i := 0)) run_nil)) run_name) (run_seq (run_asg (run_op run_rep (run_lst (run_cons run_c run_nil)) (run_op run_add (run_var (i := 2)) run_c)) run_name) (run_seq (run_asg (run_op run_rep (run_lst (run_cons run_c run_nil)) (run_var (i := 2))) run_name) (run_seq (run_for (run_iR1 (run_cons (run_var (i := 2)) run_nil)) run_name (run_seq (run_asg (run_op run_I0 (run_op run_I0 (run_var (i := 2)) run_c) (run_var (i := 5))) run_name) (run_seq (run_asg (run_op run_add (run_def (run_cons (run_op run_ix (run_var (i := 1)) run_c) (run_cons (run_op run_ix (run_var (i := 0)) (run_var (i := 6))) run_nil))) (run_op run_ix (run_var (i := 3)) (run_op run_add (run_var (i := 6)) run_c))) run_name) (run_seq (run_asg (run_def (run_cons (run_var (i := 0)) (run_cons (run_var (i := 6)) (run_cons (run_op run_ix (run_var (i := 1)) run_c) run_nil)))) run_name) (run_seq (run_if (run_test (run_op run_I0 (run_var (i := 8)) run_c)) (run_seq (run_asg (run_op run_add (run_op run_add (run_op run_ix (run_op run_ix (run_var (i := 1)) run_c) run_c) (run_op run_ix (run_op run_ix (run_var (i := 1)) run_c) run_c)) (run_op run_ix (run_var (i := 3)) (run_op run_add (run_var (i := 6)) (run_var (i := 8))))) run_name) (run_if (run_or (run_test (run_op run_I0 (run_var (i := 9)) (run_var (i := 7)))) (run_and (run_test (run_op run_eqD (run_var (i := 9)) (run_var (i := 7)))) (run_test (run_op run_I0 (run_var (i := 8)) run_c)))) (run_seq (run_asg (run_var (i := 9)) run_name) (run_set (run_var (i := 4)) (run_var (i := 6)) (run_var (i := 8)))) run_next)) run_next) (run_set (run_var (i := 3)) (run_var (i := 6)) (run_var (i := 7)))))))) (run_frz (run_frz (run_seq (run_asg (run_lst run_nil) run_name) (run_seq (run_asg run_c run_name) (run_seq (run_for (run_iR1 (run_cons (run_var (i := 2)) run_nil)) run_name (run_if (run_and (run_test (run_op run_I0 (run_var (i := 6)) (run_var (i := 2)))) (run_test (run_op run_I0 (run_op run_ix (run_var (i := 4)) (run_var (i := 6))) run_c))) (run_seq (run_app (run_var (i := 10)) (run_tup (run_cons run_c (run_cons (run_op run_ix (run_var (i := 4)) (run_var (i := 6))) run_nil)))) (run_asg (run_op run_add (run_var (i := 6)) (run_op run_ix (run_var (i := 4)) (run_var (i := 6)))) run_name)) (run_if (run_test (run_op run_I0 (run_var (i := 6)) (run_var (i := 2)))) (run_seq (run_app (run_var (i := 10)) (run_tup (run_cons run_c (run_cons (run_op run_ix (run_var (i := 0)) (run_var (i := 6))) run_nil)))) (run_asg (run_op run_add (run_var (i := 6)) run_c) run_name)) run_next))) (run_frz (run_ret (run_tup (run_cons (run_cb run_tuple (run_cons (run_var (i := 10)) run_nil)) (run_cons (run_op run_ix (run_var (i := 3)) run_c) run_nil)))))))))))))) h⟩
theorem ok_Table_repetition_price (T : Txt K mg h) : Ok P w K mg base 1 (He.ma K (He.ga K "Table") "repetition_price") ["self"] [] (fnFS (He.ga K) (F_Table_repetition_price K)) := by
  obtain ⟨fd, F⟩ := T.s.def_ 10 (d := d_Table_repetition_price) rfl
  refine ok_fn F sc_Table_repetition_price (fun _ _ _ _ _ _ us hl => match us, hl with | [_], _ => rfl) (fun xs μ P R h => fRun_len h) (fun cdv A outer s H E hr => ?_)
  have tk : Takes (cxOf (L2.CX P w) P w K mg base N_Table_repetition_price "Table.repetition_price" (defScope s_Table_repetition_price) (He.ma K (He.ga K "Table") "repetition_price") cdv A outer s H E) (WxOf E) := takes_of rfl rfl rfl rfl
  exact ⟨_, _, (bs_one (b_ret (b_ifE (b_cmpT op_isN op2_isN (b_fldC (fo_Table_repeat (K := K) T) (b_var 0)) b_non (nomark _)) b_int (b_add (b_ix (b_fldC (fo_Table_repeat (K := K) T) (b_var 0)) b_int) (b_ix (b_fldC (fo_Table_repeat (K := K) T) (b_var 0)) b_int))))), fun xs μ P R h => fRun_ok (run_ret (run_ifE (run_test (run_op run_isN (run_fld (run_var (i := 0))) run_c)) run_c (run_op run_add (run_op run_ix (run_fld (run_var (i := 0))) run_c) (run_op run_ix (run_fld (run_var (i := 0))) run_c)))) h⟩
theorem ok_Table_rung_of (T : Txt K mg h) : Ok P w K mg base 3 (He.ma K (He.ga K "Table") "rung_of") ["self", "number"] [] (fnFS (He.ga K) (FRL.F_Table_rung_of K)) := by
  obtain ⟨fd, F⟩ := T.s.def_ 11 (d := d_Table_rung_of) rfl
  refine ok_fn F sc_Table_rung_of (fun _ _ _ _ _ _ us hl => match us, hl with | [_, _], _ => rfl) (fun xs μ P R h => fRun_len h) (fun cdv A outer s H E hr => ?_)
  have tk : Takes (cxOf (L2.CX P w) P w K mg base N_Table_rung_of "Table.rung_of" (defScope s_Table_rung_of) (He.ma K (He.ga K "Table") "rung_of") cdv A outer s H E) (WxOf E) := takes_of rfl rfl rfl rfl
  exact ⟨_, _, (bs_cons (b_if (b_not (b_chainT op_le op2_I0 op_lt op2_I0 b_int (b_var 1) (b_fldC (fo_Table_total (K := K) T) (b_var 0)))) (bs_one (b_raiseO (ok_NoRung_init (K := K) T) (hr.mono (by first | decide | omega)) rfl (g_NoRung (K := K) T) rfl tk (b_cons (b_var 1) b_nil))) bs_nil) (bs_cons (b_set 2 sc_Table_rung_of.nd rfl (by first | exact Or.inl rfl | exact Or.inr rfl) (b_sub (b_cb call_len opc_len rfl (n_len (K := K) T) (by decide +kernel) (b_cons (b_fldC (fo_Table_starts (K := K) T) (b_var 0)) b_nil)) b_int)) (bs_cons (b_while (passes_of rfl) (b_cmpT op_gt op2_I0 (b_ix (b_fldC (fo_Table_starts (K := K) T) (b_var 0)) (b_var 2)) (b_var 1) (nomark _)) (bs_one (b_augS 2 sc_Table_rung_of.nd rfl (by first | exact Or.inl rfl | exact Or.inr rfl) b_int))) (bs_one (b_ret (b_var 2)))))), fun xs μ P R h => fRun_ok (run_seq (run_if (run_not (run_test (run_chain run_I0 run_I0 run_c (run_var (i := 1)) (run_fld (run_var (i := 0)))))) (run_raiseO (run_cons (run_var (i := 1)) run_nil)) run_next) (run_seq (run_asg (run_op run_I0 (run_cb run_len (run_cons (run_fld (run_var (i := 0))) run_nil)) run_c) run_name) (run_seq (run_whl (run_test (run_op run_I0 (run_op run_ix (run_fld (run_var (i := 0))) (run_var (i := 2))) (run_var (i := 1)))) (run_aug run_c)) (run_ret (run_var (i := 2)))))) h⟩
theorem ok_Table_literal_price (T : Txt K mg h) : Ok P w K mg base 4 (He.ma K (He.ga K "Table") "literal_price") ["self", "number"] [] (fnFS (He.ga K) (F_Table_literal_price K)) := by
  obtain ⟨fd, F⟩ := T.s.def_ 12 (d := d_Table_literal_price) rfl
  refine ok_fn F sc_Table_literal_price (fun _ _ _ _ _ _ us hl => match us, hl with | [_, _], _ => rfl) (fun xs μ P R h => fRun_len h) (fun cdv A outer s H E hr => ?_)
  have tk : Takes (cxOf (L2.CX P w) P w K mg base N_Table_literal_price "Table.literal_price" (defScope s_Table_literal_price) (He.ma K (He.ga K "Table") "literal_price") cdv A outer s H E) (WxOf E) := takes_of rfl rfl rfl rfl
  exact ⟨_, _, (bs_cons (b_asg (b_ix (b_fldC (fo_Table_rungs (K := K) T) (b_var 0)) (b_metX (ok_X (ok_Table_rung_of (K := K) T)) (hr.mono (by first | decide | omega)) tk (cl_Table (K := K) T) (m_Table_rung_of (K := K) T) (b_var 0) (b_cons (b_var 1) b_nil))) (b_gtup (n := 2) rfl (b_gcons (b_name 2 sc_Table_literal_price.nd rfl (by first | exact Or.inl rfl | exact Or.inr rfl)) (b_gcons (b_name 3 sc_Table_literal_price.nd rfl (by first | exact Or.inl rfl | exact Or.inr rfl)) b_gnil)))) (bs_one (b_ret (b_add (b_var 2) (b_var 3))))), fun xs μ P R h => fRun_ok (run_seq (run_asg (run_op run_ix (run_fld (run_var (i := 0))) (run_met (run_var (i := 0)) (run_cons (run_var (i := 1)) run_nil))) (run_gtup (run_gcons run_name (run_gcons run_name run_gnil)))) (run_ret (run_op run_add (run_var (i := 2)) (run_var (i := 3))))) h⟩
theorem ok_Table_most_repeated (T : Txt K mg h) : Ok P w K mg base 1 (He.ma K (He.ga K "Table") "most_repeated") ["self"] [] (fnFS (He.ga K) (FRL.F_Table_most_repeated K)) := by
  obtain ⟨fd, F⟩ := T.s.def_ 13 (d := d_Table_most_repeated) rfl
  refine ok_fn F sc_Table_most_repeated (fun _ _ _ _ _ _ us hl => match us, hl with | [_], _ => rfl) (fun xs μ P R h => fRun_len h) (fun cdv A outer s H E hr => ?_)
  have tk : Takes (cxOf (L2.CX P w) P w K mg base N_Table_most_repeated "Table.most_repeated" (defScope s_Table_most_repeated) (He.ma K (He.ga K "Table") "most_repeated") cdv A outer s H E) (WxOf E) := takes_of rfl rfl rfl rfl
  exact ⟨_, _, (bs_one (b_ret (b_ifE (b_cmpT op_isN op2_isN (b_fldC (fo_Table_repeat (K := K) T) (b_var 0)) b_non (nomark _)) b_int (b_shl b_int (b_ix (b_fldC (fo_Table_repeat (K := K) T) (b_var 0)) b_int))))), fun xs μ P R h => fRun_ok (run_ret (run_ifE (run_test (run_op run_isN (run_fld (run_var (i := 0))) run_c)) run_c (run_op run_shl run_c (run_op run_ix (run_fld (run_var (i := 0))) run_c)))) h⟩
theorem ok_number_before (T : Txt K mg h) : Ok P w K mg base 1 (He.ga K "number_before") ["numbers", "place"] [] (fnFS (He.ga K) F_number_before) := by
  obtain ⟨fd, F⟩ := T.s.def_ 14 (d := d_number_before) rfl
  refine ok_fn F sc_number_before (fun _ _ _ _ _ _ us hl => match us, hl with | [_, _], _ => rfl) (fun xs μ P R h => fRun_len h) (fun cdv A outer s H E hr => ?_)
  have tk : Takes (cxOf (L2.CX P w) P w K mg base N_number_before "number_before" (defScope s_number_before) (He.ga K "number_before") cdv A outer s H E) (WxOf E) := takes_of rfl rfl rfl rfl
  exact ⟨_, _, (bs_one (b_ret (b_ifE (b_cmpT op_gt op2_I0 (b_var 1) b_int (nomark _)) (b_ix (b_var 0) (b_sub (b_var 1) b_int)) b_int))), fun xs μ P R h => fRun_ok (run_ret (run_ifE (run_test (run_op run_I0 (run_var (i := 1)) run_c)) (run_op run_ix (run_var (i := 0)) (run_op run_I0 (run_var (i := 1)) run_c)) run_c)) h⟩
theorem ok_fewest_bits (T : Txt K mg h) : Ok P w K mg base 5 (He.ga K "fewest_bits") ["numbers", "table"] [] (fnFS (He.ga K) (F_fewest_bits K)) := by
  obtain ⟨fd, F⟩ := T.s.def_ 15 (d := d_fewest_bits) rfl
  refine ok_fn F sc_fewest_bits (fun _ _ _ _ _ _ us hl => match us, hl with | [_, _], _ => rfl) (fun xs μ P R h => fRun_len h) (fun cdv A outer s H E hr => ?_)
  have tk : Takes (cxOf (L2.CX P w) P w K mg base N_fewest_bits "fewest_bits" (defScope s_fewest_bits) (He.ga K "fewest_bits") cdv A outer s H E) (WxOf E) := takes_of rfl rfl rfl rfl
  exact ⟨_, _, (bs_cons (b_setLc 2 rfl sc_fewest_bits.nd rfl rfl (sw_true rfl rfl rfl (by decide +kernel)) (b_iS (b_var 0)) (blkOk_by (own := [("number", 3)]) (N := N_fewest_bits) rfl) (wipes_name (by decide)) (fun _ _ _ _ _ => (b_name 3 sc_fewest_bits.nd rfl (by first | exact Or.inl rfl | exact Or.inr rfl))) (fun _ _ _ _ _ => b_noif) (fun _ _ _ _ _ => (b_metX (ok_X (ok_Table_literal_price (K := K) T)) (hr.mono (by first | decide | omega)) takes0 (cl_Table (K := K) T) (m_Table_literal_price (K := K) T) (b_var 1) (b_cons (b_var 3) b_nil)))) (bs_cons (b_set 4 sc_fewest_bits.nd rfl (by first | exact Or.inl rfl | exact Or.inr rfl) (b_metX0 (ok_X (ok_Table_repetition_price (K := K) T)) (hr.mono (by first | decide | omega)) tk (cl_Table (K := K) T) (m_Table_repetition_price (K := K) T) (b_var 1))) (bs_cons (b_set 5 sc_fewest_bits.nd rfl (by first | exact Or.inl rfl | exact Or.inr rfl) (b_mul (b_lst (b_cons b_int b_nil)) (b_add (b_cb call_len opc_len rfl (n_len (K := K) T) (by decide +kernel) (b_cons (b_var 0) b_nil)) b_int))) (bs_cons (b_set 6 sc_fewest_bits.nd rfl (by first | exact Or.inl rfl | exact Or.inr rfl) (b_mul (b_lst (b_cons b_int b_nil)) (b_cb call_len opc_len rfl (n_len (K := K) T) (by decide +kernel) (b_cons (b_var 0) b_nil)))) (bs_cons (b_set 7 sc_fewest_bits.nd rfl (by first | exact Or.inl rfl | exact Or.inr rfl) b_int) (bs_cons (b_for (passes_of rfl) rfl (b_iRevR1 (n_range (K := K) T) rfl (n_reversed (K := K) T) rfl (b_cb call_len opc_len rfl (n_len (K := K) T) (by decide +kernel) (b_cons (b_var 0) b_nil))) (b_name 8 sc_fewest_bits.nd rfl (by first | exact Or.inl rfl | exact Or.inr rfl)) (bs_cons (b_set 7 sc_fewest_bits.nd rfl (by first | exact Or.inl rfl | exact Or.inr rfl) (b_ifE (b_cmpT op_eq op2_eq (b_ix (b_var 0) (b_var 8)) (b_call (ok_number_before (K := K) T) (hr.mono (by first | decide | omega)) rfl (g_number_before (K := K) T) tk (b_cons (b_var 0) (b_cons (b_var 8) b_nil))) (nomark _)) (b_add (b_var 7) b_int) b_int)) (bs_cons (b_setL (b_var 5) (b_var 8) (b_add (b_ix (b_var 2) (b_var 8)) (b_ix (b_var 5) (b_add (b_var 8) b_int))) (pg_sub (BE.pe (Wx := WxOf E) (b_var 5)) (BE.pe (Wx := WxOf E) (b_var 8)) set_list)) (bs_cons (b_set 9 sc_fewest_bits.nd rfl (by first | exact Or.inl rfl | exact Or.inr rfl) (b_cb (call_min2 rfl) opc_min2 rfl (n_min (K := K) T) (by decide +kernel) (b_cons (b_var 7) (b_cons (b_metX0 (ok_X (ok_Table_most_repeated (K := K) T)) (hr.mono (by first | decide | omega)) tk (cl_Table (K := K) T) (m_Table_most_repeated (K := K) T) (b_var 1)) b_nil)))) (bs_cons (b_set 10 sc_fewest_bits.nd rfl (by first | exact Or.inl rfl | exact Or.inr rfl) (b_add (b_var 4) (b_ix (b_var 5) (b_add (b_var 8) (b_var 9))))) (bs_one (b_if (BW.t (b_or (b_cmpT op_lt op2_I0 (b_var 10) (b_ix (b_var 5) (b_var 8)) (nomark _)) (b_or1 (BW.t (b_and (b_eqDTk (K := K) (hr.mono (Nat.le_refl _)) (b_var 10) (b_ix (b_var 5) (b_var 8)) (nomark _)) (b_and1 (b_cmpT op_gt op2_I0 (b_var 9) b_int (nomark _)))))))) (bs_cons (b_setL (b_var 5) (b_var 8) (b_var 10) (pg_sub (BE.pe (Wx := WxOf E) (b_var 5)) (BE.pe (Wx := WxOf E) (b_var 8)) set_list)) (bs_one (b_setL (b_var 6) (b_var 8) (b_var 9) (pg_sub (BE.pe (Wx := WxOf E) (b_var 6)) (BE.pe (Wx := WxOf E) (b_var 8)) set_list)))) bs_nil))))))) (bs_frzV 6 (bs_frzV 5 (bs_one (b_ret (b_tup (b_cons (b_ix (b_var 5) b_int) (b_cons (b_var 6) b_nil))))))))))))), fun xs μ P R h => fRun_ok (run_seq (run_asg (run_lc (run_iS (run_var (i := 0))) run_name run_yes (run_met (run_var (i := 1)) (run_cons (run_var (i := 3)) run_nil))) run_name) (run_seq (run_asg (run_met (run_var (i := 1)) run_nil) run_name) (run_seq (run_asg (run_op run_rep (run_lst (run_cons run_c run_nil)) (run_op run_add (run_cb run_len (run_cons (run_var (i := 0)) run_nil)) run_c)) run_name) (run_seq (run_asg (run_op run_rep (run_lst (run_cons run_c run_nil)) (run_cb run_len (run_cons (run_var (i := 0)) run_nil))) run_name) (run_seq (run_asg run_c run_name) (run_seq (run_for (run_iRevR1 (run_cb run_len (run_cons (run_var (i := 0)) run_nil))) run_name (run_seq (run_asg (run_ifE (run_test (run_op run_eq (run_op run_ix (run_var (i := 0)) (run_var (i := 8))) (run_def (run_cons (run_var (i := 0)) (run_cons (run_var (i := 8)) run_nil))))) (run_op run_add (run_var (i := 7)) run_c) run_c) run_name) (run_seq (run_set (run_var (i := 5)) (run_var (i := 8)) (run_op run_add (run_op run_ix (run_var (i := 2)) (run_var (i := 8))) (run_op run_ix (run_var (i := 5)) (run_op run_add (run_var (i := 8)) run_c)))) (run_seq (run_asg (run_cb run_min2 (run_cons (run_var (i := 7)) (run_cons (run_met (run_var (i := 1)) run_nil) run_nil))) run_name) (run_seq (run_asg (run_op run_add (run_var (i := 4)) (run_op run_ix (run_var (i := 5)) (run_op run_add (run_var (i := 8)) (run_var (i := 9))))) run_name) (run_if (run_or (run_test (run_op run_I0 (run_var (i := 10)) (run_op run_ix (run_var (i := 5)) (run_var (i := 8))))) (run_and (run_test (run_op run_eqD (run_var (i := 10)) (run_op run_ix (run_var (i := 5)) (run_var (i := 8))))) (run_test (run_op run_I0 (run_var (i := 9)) run_c)))) (run_seq (run_set (run_var (i := 5)) (run_var (i := 8)) (run_var (i := 10))) (run_set (run_var (i := 6)) (run_var (i := 8)) (run_var (i := 9)))) run_next)))))) (run_frz (run_frz (run_ret (run_tup (run_cons (run_op run_ix (run_var (i := 5)) run_c) (run_cons (run_var (i := 6)) run_nil)))))))))))) h⟩
theorem ok_least_tokens (T : Txt K mg h) : Ok P w K mg base 6 (He.ga K "least_tokens") ["numbers", "table"] [] (fnFS (He.ga K) (F_least_tokens K)) := by
  obtain ⟨fd, F⟩ := T.s.def_ 16 (d := d_least_tokens) rfl
  refine ok_fn F sc_least_tokens (fun _ _ _ _ _ _ us hl => match us, hl with | [_, _], _ => rfl) (fun xs μ P R h => fRun_len h) (fun cdv A outer s H E hr => ?_)
  have tk : Takes (cxOf (L2.CX P w) P w K mg base N_least_tokens "least_tokens" (defScope s_least_tokens) (He.ga K "least_tokens") cdv A outer s H E) (WxOf E) := takes_of rfl rfl rfl rfl
  exact ⟨_, _, (bs_cons (b_asg (b_call (ok_fewest_bits (K := K) T) (hr.mono (by first | decide | omega)) rfl (g_fewest_bits (K := K) T) tk (b_cons (b_var 0) (b_cons (b_var 1) b_nil))) (b_gtup (n := 2) rfl (b_gcons (b_name 2 sc_least_tokens.nd rfl (by first | exact Or.inl rfl | exact Or.inr rfl)) (b_gcons (b_name 3 sc_least_tokens.nd rfl (by first | exact Or.inl rfl | exact Or.inr rfl)) b_gnil)))) (bs_cons (b_set 4 sc_least_tokens.nd rfl (by first | exact Or.inl rfl | exact Or.inr rfl) (b_lst b_nil)) (bs_cons (b_set 5 sc_least_tokens.nd rfl (by first | exact Or.inl rfl | exact Or.inr rfl) b_int) (bs_cons (b_while (passes_of rfl) (b_cmpT op_lt op2_I0 (b_var 5) (b_cb call_len opc_len rfl (n_len (K := K) T) (by decide +kernel) (b_cons (b_var 0) b_nil)) (nomark _)) (bs_cons (b_set 6 sc_least_tokens.nd rfl (by first | exact Or.inl rfl | exact Or.inr rfl) (b_ix (b_var 3) (b_var 5))) (bs_cons (b_app (b_var 4) (b_ifE (b_cmpT op_gt op2_I0 (b_var 6) b_int (nomark _)) (b_tup (b_cons b_str (b_cons (b_var 6) b_nil))) (b_tup (b_cons b_str (b_cons (b_ix (b_var 0) (b_var 5)) b_nil))))) (bs_one (b_augA 5 sc_least_tokens.nd rfl (by first | exact Or.inl rfl | exact Or.inr rfl) (b_cb (call_max2 rfl) opc_max2 rfl (n_max (K := K) T) (by decide +kernel) (b_cons (b_var 6) (b_cons b_int b_nil)))))))) (bs_frzV 4 (bs_one (b_ret (b_cty call_tuple_of opc_tuple rfl (n_tuple (K := K) T) (by decide +kernel) (b_cons (b_var 4) b_nil))))))))), fun xs μ P R h => fRun_ok (run_seq (run_asg (run_def (run_cons (run_var (i := 0)) (run_cons (run_var (i := 1)) run_nil))) (run_gtup (run_gcons run_name (run_gcons run_name run_gnil)))) (run_seq (run_asg (run_lst run_nil) run_name) (run_seq (run_asg run_c run_name) (run_seq (run_whl (run_test (run_op run_I0 (run_var (i := 5)) (run_cb run_len (run_cons (run_var (i := 0)) run_nil)))) (run_seq (run_asg (run_op run_ix (run_var (i := 3)) (run_var (i := 5))) run_name) (run_seq (run_app (run_var (i := 4)) (run_ifE (run_test (run_op run_I0 (run_var (i := 6)) run_c)) (run_tup (run_cons run_c (run_cons (run_var (i := 6)) run_nil))) (run_tup (run_cons run_c (run_cons (run_op run_ix (run_var (i := 0)) (run_var (i := 5))) run_nil))))) (run_aug (run_cb run_max2 (run_cons (run_var (i := 6)) (run_cons run_c run_nil))))))) (run_frz (run_ret (run_cb run_tuple (run_cons (run_var (i := 4)) run_nil)))))))) h⟩
theorem ok_L_bits_of (T : Txt K mg h) : Ok P w K mg base 2 (He.ga K "_law_bits_of") ["tokens", "parts"] [] (fnFS (He.ga K) F_L_bits_of) := by
  obtain ⟨fd, F⟩ := T.s.def_ 17 (d := d_L_bits_of) rfl
  refine ok_fn F sc_L_bits_of (fun _ _ _ _ _ _ us hl => match us, hl with | [_, _], _ => rfl) (fun xs μ P R h => fRun_len h) (fun cdv A outer s H E hr => ?_)
  have tk : Takes (cxOf (L2.CX P w) P w K mg base N_L_bits_of "_law_bits_of" (defScope s_L_bits_of) (He.ga K "_law_bits_of") cdv A outer s H E) (WxOf E) := takes_of rfl rfl rfl rfl
  exact ⟨_, _, (bs_cons (b_set 2 sc_L_bits_of.nd rfl (by first | exact Or.inl rfl | exact Or.inr rfl) b_int) (bs_cons (b_for (passes_of rfl) rfl (b_iS (b_var 0)) (b_gtup (n := 2) rfl (b_gcons (b_name 3 sc_L_bits_of.nd rfl (by first | exact Or.inl rfl | exact Or.inr rfl)) (b_gcons (b_name 4 sc_L_bits_of.nd rfl (by first | exact Or.inl rfl | exact Or.inr rfl)) b_gnil))) (bs_one (b_if (b_cmpT op_eq op2_eq (b_var 3) b_str (nomark _)) (bs_one (b_set 2 sc_L_bits_of.nd rfl (by first | exact Or.inl rfl | exact Or.inr rfl) (b_add (b_var 2) (b_call (ok_L_size (K := K) T) (hr.mono (by first | decide | omega)) rfl (g_L_size (K := K) T) tk (b_cons (b_ix (b_var 1) b_int) (b_cons (b_var 4) b_nil)))))) (bs_one (b_set 2 sc_L_bits_of.nd rfl (by first | exact Or.inl rfl | exact Or.inr rfl) (b_add (b_add (b_var 2) (b_ix (b_ix (b_var 1) b_int) b_int)) (b_ix (b_ix (b_var 1) b_int) b_int))))))) (bs_one (b_ret (b_var 2))))), fun xs μ P R h => fRun_ok (run_seq (run_asg run_c run_name) (run_seq (run_for (run_iS (run_var (i := 0))) (run_gtup (run_gcons run_name (run_gcons run_name run_gnil))) (run_if (run_test (run_op run_eq (run_var (i := 3)) run_c)) (run_asg (run_op run_add (run_var (i := 2)) (run_def (run_cons (run_op run_ix (run_var (i := 1)) run_c) (run_cons (run_var (i := 4)) run_nil)))) run_name) (run_asg (run_op run_add (run_op run_add (run_var (i := 2)) (run_op run_ix (run_op run_ix (run_var (i := 1)) run_c) run_c)) (run_op run_ix (run_op run_ix (run_var (i := 1)) run_c) run_c)) run_name))) (run_ret (run_var (i := 2))))) h⟩
theorem ok_L_draw (T : Txt K mg h) : Ok P w K mg base 1 (He.ga K "_law_draw") ["drawer", "many"] [] (fnFS (He.ga K) FRL.F_L_draw) := by
  obtain ⟨fd, F⟩ := T.s.def_ 18 (d := d_L_draw) rfl
  refine ok_fn F sc_L_draw (fun _ _ _ _ _ _ us hl => match us, hl with | [_, _], _ => rfl) (fun xs μ P R h => fRun_len h) (fun cdv A outer s H E hr => ?_)
  have tk : Takes (cxOf (L2.CX P w) P w K mg base N_L_draw "_law_draw" (defScope s_L_draw) (He.ga K "_law_draw") cdv A outer s H E) (WxOf E) := takes_of rfl rfl rfl rfl
  exact ⟨_, _, (bs_cons (b_if (b_cmpT op_gt op2_I0 (b_ix (b_var 0) b_int) b_int (nomark _)) (bs_cons (b_set 2 sc_L_draw.nd rfl (by first | exact Or.inl rfl | exact Or.inr rfl) (b_mod (b_cty call_int1 opc_int rfl (n_int (K := K) T) (by decide +kernel) (b_cons (b_ix (b_var 0) b_int) b_nil)) (b_var 1))) (bs_cons (b_setL (b_var 0) b_int (b_fdivW (b_ix (b_var 0) b_int) (b_var 1)) (pg_sub (BE.pe (Wx := WxOf E) (b_var 0)) (BE.pe (Wx := WxOf E) b_int) set_list)) (bs_one (b_ret (b_var 2))))) bs_nil) (bs_cons (b_setL (b_var 0) b_int (b_add (b_ix (b_var 0) b_int) b_int) (pg_sub (BE.pe (Wx := WxOf E) (b_var 0)) (BE.pe (Wx := WxOf E) b_int) set_list)) (bs_cons (b_set 3 sc_L_draw.nd rfl (by first | exact Or.inl rfl | exact Or.inr rfl) (b_mod (b_cty call_int1 opc_int rfl (n_int (K := K) T) (by decide +kernel) (b_cons (b_add (b_add (b_mulI (b_ix (b_var 0) b_int) b_int) (b_mulI (b_ix (b_var 0) b_int) b_int)) b_int) b_nil)) b_int)) (bs_cons (b_set 4 sc_L_draw.nd rfl (by first | exact Or.inl rfl | exact Or.inr rfl) (b_mod (b_cty call_int1 opc_int rfl (n_int (K := K) T) (by decide +kernel) (b_cons (b_add (b_mulI (b_var 3) (b_add (b_fdivW (b_var 3) b_int) b_int)) (b_mulI (b_ix (b_var 0) b_int) b_int)) b_nil)) b_int)) (bs_one (b_ret (b_mod (b_cty call_int1 opc_int rfl (n_int (K := K) T) (by decide +kernel) (b_cons (b_fdivW (b_var 4) b_int) b_nil)) (b_var 1)))))))), fun xs μ P R h => fRun_ok (run_seq (run_if (run_test (run_op run_I0 (run_op run_ix (run_var (i := 0)) run_c) run_c)) (run_seq (run_asg (run_op run_mod (run_cb run_int (run_cons (run_op run_ix (run_var (i := 0)) run_c) run_nil)) (run_var (i := 1))) run_name) (run_seq (run_set (run_var (i := 0)) run_c (run_op run_div (run_op run_ix (run_var (i := 0)) run_c) (run_var (i := 1)))) (run_ret (run_var (i := 2))))) run_next) (run_seq (run_set (run_var (i := 0)) run_c (run_op run_add (run_op run_ix (run_var (i := 0)) run_c) run_c)) (run_seq (run_asg (run_op run_mod (run_cb run_int (run_cons (run_op run_add (run_op run_add (run_op run_mul (run_op run_ix (run_var (i := 0)) run_c) run_c) (run_op run_mul (run_op run_ix (run_var (i := 0)) run_c) run_c)) run_c) run_nil)) run_c) run_name) (run_seq (run_asg (run_op run_mod (run_cb run_int (run_cons (run_op run_add (run_op run_mul (run_var (i := 3)) (run_op run_add (run_op run_div (run_var (i := 3)) run_c) run_c)) (run_op run_mul (run_op run_ix (run_var (i := 0)) run_c) run_c)) run_nil)) run_c) run_name) (run_ret (run_op run_mod (run_cb run_int (run_cons (run_op run_div (run_var (i := 4)) run_c) run_nil)) (run_var (i := 1)))))))) h⟩
theorem ok_L_pick (T : Txt K mg h) : Ok P w K mg base 2 (He.ga K "_law_pick") ["drawer", "choices"] [] (fnFS (He.ga K) FRL.F_L_pick) := by
  obtain ⟨fd, F⟩ := T.s.def_ 19 (d := d_L_pick) rfl
  refine ok_fn F sc_L_pick (fun _ _ _ _ _ _ us hl => match us, hl with | [_, _], _ => rfl) (fun xs μ P R h => fRun_len h) (fun cdv A outer s H E hr => ?_)
  have tk : Takes (cxOf (L2.CX P w) P w K mg base N_L_pick "_law_pick" (defScope s_L_pick) (He.ga K "_law_pick") cdv A outer s H E) (WxOf E) := takes_of rfl rfl rfl rfl
  exact ⟨_, _, (bs_one (b_ret (b_ix (b_var 1) (b_call (ok_L_draw (K := K) T) (hr.mono (by first | decide | omega)) rfl (g_L_draw (K := K) T) tk (b_cons (b_var 0) (b_cons (b_cb call_len opc_len rfl (n_len (K := K) T) (by decide +kernel) (b_cons (b_var 1) b_nil)) b_nil)))))), fun xs μ P R h => fRun_ok (run_ret (run_op run_ix (run_var (i := 1)) (run_def (run_cons (run_var (i := 0)) (run_cons (run_cb run_len (run_cons (run_var (i := 1)) run_nil)) run_nil))))) h⟩
theorem ok_L_complete (T : Txt K mg h) : Ok P w K mg base 2 (He.ga K "_law_complete") ["drawer", "many"] [] (fnFS (He.ga K) FRL.F_L_complete) := by
  obtain ⟨fd, F⟩ := T.s.def_ 20 (d := d_L_complete) rfl
  refine ok_fn F sc_L_complete (fun _ _ _ _ _ _ us hl => match us, hl with | [_, _], _ => rfl) (fun xs μ P R h => fRun_len h) (fun cdv A outer s H E hr => ?_)
  have tk : Takes (cxOf (L2.CX P w) P w K mg base N_L_complete "_law_complete" (defScope s_L_complete) (He.ga K "_law_complete") cdv A outer s H E) (WxOf E) := takes_of rfl rfl rfl rfl
  exact ⟨_, _, (bs_cons (b_set 2 sc_L_complete.nd rfl (by first | exact Or.inl rfl | exact Or.inr rfl) (b_lst (b_cons b_int b_nil))) (bs_cons (b_for (passes_of rfl) rfl (b_iR1 rfl (n_range (K := K) T) (b_cons (b_sub (b_var 1) b_int) b_nil)) (b_name 3 sc_L_complete.nd rfl (by first | exact Or.inl rfl | exact Or.inr rfl)) (bs_cons (b_set 4 sc_L_complete.nd rfl (by first | exact Or.inl rfl | exact Or.inr rfl) (b_call (ok_L_draw (K := K) T) (hr.mono (by first | decide | omega)) rfl (g_L_draw (K := K) T) tk (b_cons (b_var 0) (b_cons (b_cb call_len opc_len rfl (n_len (K := K) T) (by decide +kernel) (b_cons (b_var 2) b_nil)) b_nil)))) (bs_cons (b_setL (b_var 2) (b_var 4) (b_add (b_ix (b_var 2) (b_var 4)) b_int) (pg_sub (BE.pe (Wx := WxOf E) (b_var 2)) (BE.pe (Wx := WxOf E) (b_var 4)) set_list)) (bs_one (b_app (b_var 2) (b_ix (b_var 2) (b_var 4))))))) (bs_frzV 2 (bs_one (b_ret (b_var 2)))))), fun xs μ P R h => fRun_ok (run_seq (run_asg (run_lst (run_cons run_c run_nil)) run_name) (run_seq (run_for (run_iR1 (run_cons (run_op run_I0 (run_var (i := 1)) run_c) run_nil)) run_name (run_seq (run_asg (run_def (run_cons (run_var (i := 0)) (run_cons (run_cb run_len (run_cons (run_var (i := 2)) run_nil)) run_nil))) run_name) (run_seq (run_set (run_var (i := 2)) (run_var (i := 4)) (run_op run_add (run_op run_ix (run_var (i := 2)) (run_var (i := 4))) run_c)) (run_app (run_var (i := 2)) (run_op run_ix (run_var (i := 2)) (run_var (i := 4))))))) (run_frz (run_ret (run_var (i := 2)))))) h⟩
theorem ok_L_dealt (T : Txt K mg h) : Ok P w K mg base 2 (He.ga K "_law_dealt") ["drawer", "row"] [] (fnFS (He.ga K) FRL.F_L_dealt) := by
  obtain ⟨fd, F⟩ := T.s.def_ 21 (d := d_L_dealt) rfl
  refine ok_fn F sc_L_dealt (fun _ _ _ _ _ _ us hl => match us, hl with | [_, _], _ => rfl) (fun xs μ P R h => fRun_len h) (fun cdv A outer s H E hr => ?_)
  have tk : Takes (cxOf (L2.CX P w) P w K mg base N_L_dealt "_law_dealt" (defScope s_L_dealt) (He.ga K "_law_dealt") cdv A outer s H E) (WxOf E) := takes_of rfl rfl rfl rfl
  exact ⟨_, _, (bs_cons (b_set 2 sc_L_dealt.nd rfl (by first | exact Or.inl rfl | exact Or.inr rfl) (b_cty call_list_of opc_list rfl (n_list (K := K) T) (by decide +kernel) (b_cons (b_var 1) b_nil))) (bs_cons (b_set 3 sc_L_dealt.nd rfl (by first | exact Or.inl rfl | exact Or.inr rfl) (b_lst b_nil)) (bs_cons (b_for (passes_of rfl) rfl (b_iR1 rfl (n_range (K := K) T) (b_cons (b_cb call_len opc_len rfl (n_len (K := K) T) (by decide +kernel) (b_cons (b_var 1) b_nil)) b_nil)) (b_name 4 sc_L_dealt.nd rfl (by first | exact Or.inl rfl | exact Or.inr rfl)) (bs_one (b_app (b_var 3) (b_pop (b_var 2) (b_call (ok_L_draw (K := K) T) (hr.mono (by first | decide | omega)) rfl (g_L_draw (K := K) T) tk (b_cons (b_var 0) (b_cons (b_cb call_len opc_len rfl (n_len (K := K) T) (by decide +kernel) (b_cons (b_var 2) b_nil)) b_nil))))))) (bs_frzV 3 (bs_one (b_ret (b_var 3))))))), fun xs μ P R h => fRun_ok (run_seq (run_asg (run_cb run_list (run_cons (run_var (i := 1)) run_nil)) run_name) (run_seq (run_asg (run_lst run_nil) run_name) (run_seq (run_for (run_iR1 (run_cons (run_cb run_len (run_cons (run_var (i := 1)) run_nil)) run_nil)) run_name (run_app (run_var (i := 3)) (run_pop (run_var (i := 2)) (run_def (run_cons (run_var (i := 0)) (run_cons (run_cb run_len (run_cons (run_var (i := 2)) run_nil)) run_nil)))))) (run_frz (run_ret (run_var (i := 3))))))) h⟩
theorem ok_L_any_table (T : Txt K mg h) : Ok P w K mg base 3 (He.ga K "_law_any_table") ["drawer"] [] (fnFS (He.ga K) FRL.F_L_any_table) := by
  obtain ⟨fd, F⟩ := T.s.def_ 22 (d := d_L_any_table) rfl
  refine ok_fn F sc_L_any_table (fun _ _ _ _ _ _ us hl => match us, hl with | [_], _ => rfl) (fun xs μ P R h => fRun_len h) (fun cdv A outer s H E hr => ?_)
  have tk : Takes (cxOf (L2.CX P w) P w K mg base N_L_any_table "_law_any_table" (defScope s_L_any_table) (He.ga K "_law_any_table") cdv A outer s H E) (WxOf E) := takes_of rfl rfl rfl rfl
  exact ⟨_, _, (bs_cons (b_set 1 sc_L_any_table.nd rfl (by first | exact Or.inl rfl | exact Or.inr rfl) (b_add b_int (b_call (ok_L_draw (K := K) T) (hr.mono (by first | decide | omega)) rfl (g_L_draw (K := K) T) tk (b_cons (b_var 0) (b_cons (b_call (ok_L_pick (K := K) T) (hr.mono (by first | decide | omega)) rfl (g_L_pick (K := K) T) tk (b_cons (b_var 0) (b_cons (b_lst (b_cons b_int (b_cons b_int (b_cons b_int b_nil)))) b_nil))) b_nil))))) (bs_cons (b_set 2 sc_L_any_table.nd rfl (by first | exact Or.inl rfl | exact Or.inr rfl) (b_call (ok_L_draw (K := K) T) (hr.mono (by first | decide | omega)) rfl (g_L_draw (K := K) T) tk (b_cons (b_var 0) (b_cons b_int b_nil)))) (bs_cons (b_set 3 sc_L_any_table.nd rfl (by first | exact Or.inl rfl | exact Or.inr rfl) (b_call (ok_L_pick (K := K) T) (hr.mono (by first | decide | omega)) rfl (g_L_pick (K := K) T) tk (b_cons (b_var 0) (b_cons (b_lst (b_cons b_int (b_cons b_int (b_cons b_int b_nil)))) b_nil)))) (bs_cons (b_set 4 sc_L_any_table.nd rfl (by first | exact Or.inl rfl | exact Or.inr rfl) (b_call (ok_L_complete (K := K) T) (hr.mono (by first | decide | omega)) rfl (g_L_complete (K := K) T) tk (b_cons (b_var 0) (b_cons (b_add (b_var 1) (b_var 2)) b_nil)))) (bs_cons (b_if (b_cmpT op_eq op2_eq (b_call (ok_L_draw (K := K) T) (hr.mono (by first | decide | omega)) rfl (g_L_draw (K := K) T) tk (b_cons (b_var 0) (b_cons b_int b_nil))) b_int (nomark _)) (bs_one (b_set 4 sc_L_any_table.nd rfl (by first | exact Or.inl rfl | exact Or.inr rfl) (b_lc rfl sc_L_any_table.nd (b_iR1 rfl (n_range (K := K) T) (b_cons (b_add (b_var 1) (b_var 2)) b_nil)) (blkOk_by (own := [("k", 5)]) (N := N_L_any_table) rfl) (wipes_name (by decide)) (fun _ _ _ _ _ => (b_name 5 sc_L_any_table.nd rfl (by first | exact Or.inl rfl | exact Or.inr rfl))) (fun _ _ _ _ _ => b_noif) (fun _ _ _ _ _ => (b_cb (call_min2 rfl) opc_min2 rfl (n_min (K := K) T) (by decide +kernel) (b_cons (b_addk (K := K) (b_var 5) b_int) (b_cons (b_sub (b_addk (K := K) (b_var 1) (b_var 2)) b_int) b_nil))))))) bs_nil) (bs_cons (b_set 4 sc_L_any_table.nd rfl (by first | exact Or.inl rfl | exact Or.inr rfl) (b_call (ok_L_dealt (K := K) T) (hr.mono (by first | decide | omega)) rfl (g_L_dealt (K := K) T) tk (b_cons (b_var 0) (b_cons (b_var 4) b_nil)))) (bs_cons (b_set 6 sc_L_any_table.nd rfl (by first | exact Or.inl rfl | exact Or.inr rfl) (b_cty call_tuple_of opc_tuple rfl (n_tuple (K := K) T) (by decide +kernel) (b_cons (b_lc rfl sc_L_any_table.nd (b_iR1 rfl (n_range (K := K) T) (b_cons (b_var 1) b_nil)) (blkOk_by (own := [("k", 5)]) (N := N_L_any_table) rfl) (wipes_name (by decide)) (fun _ _ _ _ _ => (b_name 5 sc_L_any_table.nd rfl (by first | exact Or.inl rfl | exact Or.inr rfl))) (fun _ _ _ _ _ => b_noif) (fun _ _ _ _ _ => (b_tup (b_cons (b_ixk (K := K) (b_var 4) (b_var 5)) (b_cons (b_callk (K := K) (ok_L_draw (K := K) T) (hr.mono (by first | decide | omega)) rfl (g_L_draw (K := K) T) takes0 (b_cons (b_var 0) (b_cons (b_var 3) b_nil))) b_nil))))) b_nil))) (bs_cons (b_if (b_cmpT op_eq op2_eq (b_var 2) b_int (nomark _)) (bs_one (b_ret (b_tup (b_cons (b_var 6) (b_cons (b_tup (b_cons (b_ix (b_var 4) (b_var 1)) (b_cons (b_call (ok_L_draw (K := K) T) (hr.mono (by first | decide | omega)) rfl (g_L_draw (K := K) T) tk (b_cons (b_var 0) (b_cons b_int b_nil))) b_nil))) b_nil))))) bs_nil) (bs_one (b_ret (b_tup (b_cons (b_var 6) (b_cons b_non b_nil))))))))))))), fun xs μ P R h => fRun_ok (run_seq (run_asg (run_op run_add run_c (run_def (run_cons (run_var (i := 0)) (run_cons (run_def (run_cons (run_var (i := 0)) (run_cons (run_lst (run_cons run_c (run_cons run_c (run_cons run_c run_nil)))) run_nil))) run_nil)))) run_name) (run_seq (run_asg (run_def (run_cons (run_var (i := 0)) (run_cons run_c run_nil))) run_name) (run_seq (run_asg (run_def (run_cons (run_var (i := 0)) (run_cons (run_lst (run_cons run_c (run_cons run_c (run_cons run_c run_nil)))) run_nil))) run_name) (run_seq (run_asg (run_def (run_cons (run_var (i := 0)) (run_cons (run_op run_add (run_var (i := 1)) (run_var (i := 2))) run_nil))) run_name) (run_seq (run_if (run_test (run_op run_eq (run_def (run_cons (run_var (i := 0)) (run_cons run_c run_nil))) run_c)) (run_asg (run_lc (run_iR1 (run_cons (run_op run_add (run_var (i := 1)) (run_var (i := 2))) run_nil)) run_name run_yes (run_cb run_min2 (run_cons (run_op run_add (run_var (i := 5)) run_c) (run_cons (run_op run_I0 (run_op run_add (run_var (i := 1)) (run_var (i := 2))) run_c) run_nil)))) run_name) run_next) (run_seq (run_asg (run_def (run_cons (run_var (i := 0)) (run_cons (run_var (i := 4)) run_nil))) run_name) (run_seq (run_asg (run_cb run_tuple (run_cons (run_lc (run_iR1 (run_cons (run_var (i := 1)) run_nil)) run_name run_yes (run_tup (run_cons (run_op run_ix (run_var (i := 4)) (run_var (i := 5))) (run_cons (run_def (run_cons (run_var (i := 0)) (run_cons (run_var (i := 3)) run_nil))) run_nil)))) run_nil)) run_name) (run_seq (run_if (run_test (run_op run_eq (run_var (i := 2)) run_c)) (run_ret (run_tup (run_cons (run_var (i := 6)) (run_cons (run_tup (run_cons (run_op run_ix (run_var (i := 4)) (run_var (i := 1))) (run_cons (run_def (run_cons (run_var (i := 0)) (run_cons run_c run_nil))) run_nil))) run_nil)))) run_next) (run_ret (run_tup (run_cons (run_var (i := 6)) (run_cons run_c run_nil)))))))))))) h⟩
theorem ok_L_wide (T : Txt K mg h) : Ok P w K mg base 1 (He.ga K "_law_wide") ["modulus"] [] (fnFS (He.ga K) FRL.F_L_wide) := by
  obtain ⟨fd, F⟩ := T.s.def_ 23 (d := d_L_wide) rfl
  refine ok_fn F sc_L_wide (fun _ _ _ _ _ _ us hl => match us, hl with | [_], _ => rfl) (fun xs μ P R h => fRun_len h) (fun cdv A outer s H E hr => ?_)
  have tk : Takes (cxOf (L2.CX P w) P w K mg base N_L_wide "_law_wide" (defScope s_L_wide) (He.ga K "_law_wide") cdv A outer s H E) (WxOf E) := takes_of rfl rfl rfl rfl
  exact ⟨_, _, (bs_cons (b_for (passes_of rfl) rfl (b_iR1 rfl (n_range (K := K) T) (b_cons b_int b_nil)) (b_name 1 sc_L_wide.nd rfl (by first | exact Or.inl rfl | exact Or.inr rfl)) (bs_one (b_if (b_cmpT op_ge op2_I0 (b_shl b_int (b_var 1)) (b_var 0) (nomark _)) (bs_one (b_ret (b_var 1))) bs_nil))) (bs_one (b_ret b_int))), fun xs μ P R h => fRun_ok (run_seq (run_for (run_iR1 (run_cons run_c run_nil)) run_name (run_if (run_test (run_op run_I0 (run_op run_shl run_c (run_var (i := 1))) (run_var (i := 0)))) (run_ret (run_var (i := 1))) run_next)) (run_ret run_c)) h⟩
theorem ok_L_ladder (T : Txt K mg h) : Ok P w K mg base 2 (He.ga K "_law_ladder") ["first", "again", "modulus"] [] (fnFS (He.ga K) FRL.F_L_ladder) := by
  obtain ⟨fd, F⟩ := T.s.def_ 24 (d := d_L_ladder) rfl
  refine ok_fn F sc_L_ladder (fun _ _ _ _ _ _ us hl => match us, hl with | [_, _, _], _ => rfl) (fun xs μ P R h => fRun_len h) (fun cdv A outer s H E hr => ?_)
  have tk : Takes (cxOf (L2.CX P w) P w K mg base N_L_ladder "_law_ladder" (defScope s_L_ladder) (He.ga K "_law_ladder") cdv A outer s H E) (WxOf E) := takes_of rfl rfl rfl rfl
  exact ⟨_, _, (bs_cons (b_set 3 sc_L_ladder.nd rfl (by first | exact Or.inl rfl | exact Or.inr rfl) (b_lst b_nil)) (bs_cons (b_set 4 sc_L_ladder.nd rfl (by first | exact Or.inl rfl | exact Or.inr rfl) b_int) (bs_cons (b_for (passes_of rfl) rfl (b_iR1 rfl (n_range (K := K) T) (b_cons b_int b_nil)) (b_name 5 sc_L_ladder.nd rfl (by first | exact Or.inl rfl | exact Or.inr rfl)) (bs_cons (b_set 6 sc_L_ladder.nd rfl (by first | exact Or.inl rfl | exact Or.inr rfl) (b_add (b_var 0) (b_var 5))) (bs_cons (b_if (BW.t (b_or (b_cmpT op_ge op2_I0 (b_add (b_var 4) (b_shl b_int (b_var 6))) (b_var 2) (nomark _)) (b_or1 (b_cmpT op_eq op2_eq (b_var 5) b_int (nomark _))))) (bs_cons (b_app (b_var 3) (b_call (ok_L_wide (K := K) T) (hr.mono (by first | decide | omega)) rfl (g_L_wide (K := K) T) tk (b_cons (b_sub (b_var 2) (b_var 4)) b_nil))) (bs_one b_break)) bs_nil) (bs_cons (b_app (b_var 3) (b_var 6)) (bs_one (b_set 4 sc_L_ladder.nd rfl (by first | exact Or.inl rfl | exact Or.inr rfl) (b_add (b_var 4) (b_shl b_int (b_var 6))))))))) (bs_frzV 3 (bs_cons (b_set 7 sc_L_ladder.nd rfl (by first | exact Or.inl rfl | exact Or.inr rfl) (b_add (b_cb call_len opc_len rfl (n_len (K := K) T) (by decide +kernel) (b_cons (b_var 3) b_nil)) (b_cty call_int1 opc_intB rfl (n_int (K := K) T) (by decide +kernel) (b_cons (b_var 1) b_nil)))) (bs_cons (b_set 8 sc_L_ladder.nd rfl (by first | exact Or.inl rfl | exact Or.inr rfl) (b_lc rfl sc_L_ladder.nd (b_iR1 rfl (n_range (K := K) T) (b_cons (b_var 7) b_nil)) (blkOk_by (own := [("k", 5)]) (N := N_L_ladder) rfl) (wipes_name (by decide)) (fun _ _ _ _ _ => (b_name 5 sc_L_ladder.nd rfl (by first | exact Or.inl rfl | exact Or.inr rfl))) (fun _ _ _ _ _ => b_noif) (fun _ _ _ _ _ => (b_cb (call_min2 rfl) opc_min2 rfl (n_min (K := K) T) (by decide +kernel) (b_cons (b_addk (K := K) (b_var 5) b_int) (b_cons (b_sub (b_var 7) b_int) b_nil)))))) (bs_cons (b_set 9 sc_L_ladder.nd rfl (by first | exact Or.inl rfl | exact Or.inr rfl) b_non) (bs_cons (b_if (b_val (b_var 1)) (bs_cons (b_set 9 sc_L_ladder.nd rfl (by first | exact Or.inl rfl | exact Or.inr rfl) (b_tup (b_cons (b_ix (b_var 8) b_int) (b_cons b_int b_nil)))) (bs_one (b_set 8 sc_L_ladder.nd rfl (by first | exact Or.inl rfl | exact Or.inr rfl) (b_add (b_sl (b_var 8) b_po_none (b_po b_int)) (b_sl (b_var 8) (b_po b_int) b_po_none))))) bs_nil) (bs_one (b_ret (b_tup (b_cons (b_cty call_tuple_of opc_tuple rfl (n_tuple (K := K) T) (by decide +kernel) (b_cons (b_lc rfl sc_L_ladder.nd (b_iR1 rfl (n_range (K := K) T) (b_cons (b_cb call_len opc_len rfl (n_len (K := K) T) (by decide +kernel) (b_cons (b_var 3) b_nil)) b_nil)) (blkOk_by (own := [("k", 5)]) (N := N_L_ladder) rfl) (wipes_name (by decide)) (fun _ _ _ _ _ => (b_name 5 sc_L_ladder.nd rfl (by first | exact Or.inl rfl | exact Or.inr rfl))) (fun _ _ _ _ _ => b_noif) (fun _ _ _ _ _ => (b_tup (b_cons (b_ixk (K := K) (b_var 8) (b_var 5)) (b_cons (b_ixk (K := K) (b_var 3) (b_var 5)) b_nil))))) b_nil)) (b_cons (b_var 9) b_nil))))))))))))), fun xs μ P R h => fRun_ok (run_seq (run_asg (run_lst run_nil) run_name) (run_seq (run_asg run_c run_name) (run_seq (run_for (run_iR1 (run_cons run_c run_nil)) run_name (run_seq (run_asg (run_op run_add (run_var (i := 0)) (run_var (i := 5))) run_name) (run_seq (run_if (run_or (run_test (run_op run_I0 (run_op run_add (run_var (i := 4)) (run_op run_shl run_c (run_var (i := 6)))) (run_var (i := 2)))) (run_test (run_op run_eq (run_var (i := 5)) run_c))) (run_seq (run_app (run_var (i := 3)) (run_def (run_cons (run_op run_I0 (run_var (i := 2)) (run_var (i := 4))) run_nil))) run_break) run_next) (run_seq (run_app (run_var (i := 3)) (run_var (i := 6))) (run_asg (run_op run_add (run_var (i := 4)) (run_op run_shl run_c (run_var (i := 6)))) run_name))))) (run_frz (run_seq (run_asg (run_op run_add (run_cb run_len (run_cons (run_var (i := 3)) run_nil)) (run_cb run_intB (run_cons (run_var (i := 1)) run_nil))) run_name) (run_seq (run_asg (run_lc (run_iR1 (run_cons (run_var (i := 7)) run_nil)) run_name run_yes (run_cb run_min2 (run_cons (run_op run_add (run_var (i := 5)) run_c) (run_cons (run_op run_I0 (run_var (i := 7)) run_c) run_nil)))) run_name) (run_seq (run_asg run_c run_name) (run_seq (run_if (run_test (run_var (i := 1))) (run_seq (run_asg (run_tup (run_cons (run_op run_ix (run_var (i := 8)) run_c) (run_cons run_c run_nil))) run_name) (run_asg (run_op run_add (run_sl (run_var (i := 8)) run_noPart (run_part run_c)) (run_sl (run_var (i := 8)) (run_part run_c) run_noPart)) run_name)) run_next) (run_ret (run_tup (run_cons (run_cb run_tuple (run_cons (run_lc (run_iR1 (run_cons (run_cb run_len (run_cons (run_var (i := 3)) run_nil)) run_nil)) run_name run_yes (run_tup (run_cons (run_op run_ix (run_var (i := 8)) (run_var (i := 5))) (run_cons (run_op run_ix (run_var (i := 3)) (run_var (i := 5))) run_nil)))) run_nil)) (run_cons (run_var (i := 9)) run_nil)))))))))))) h⟩
theorem ok_L_modulus (T : Txt K mg h) : Ok P w K mg base 3 (He.ga K "_law_modulus") ["drawer"] [] (fnFS (He.ga K) FRL.F_L_modulus) := by
  obtain ⟨fd, F⟩ := T.s.def_ 25 (d := d_L_modulus) rfl
  refine ok_fn F sc_L_modulus (fun _ _ _ _ _ _ us hl => match us, hl with | [_], _ => rfl) (fun xs μ P R h => fRun_len h) (fun cdv A outer s H E hr => ?_)
  have tk : Takes (cxOf (L2.CX P w) P w K mg base N_L_modulus "_law_modulus" (defScope s_L_modulus) (He.ga K "_law_modulus") cdv A outer s H E) (WxOf E) := takes_of rfl rfl rfl rfl
  exact ⟨_, _, (bs_cons (b_if (b_cmpT op_eq op2_eq (b_call (ok_L_draw (K := K) T) (hr.mono (by first | decide | omega)) rfl (g_L_draw (K := K) T) tk (b_cons (b_var 0) (b_cons b_int b_nil))) b_int (nomark _)) (bs_one (b_ret (b_add b_int (b_call (ok_L_draw (K := K) T) (hr.mono (by first | decide | omega)) rfl (g_L_draw (K := K) T) tk (b_cons (b_var 0) (b_cons b_int b_nil)))))) bs_nil) (bs_one (b_ret (b_call (ok_L_pick (K := K) T) (hr.mono (by first | decide | omega)) rfl (g_L_pick (K := K) T) tk (b_cons (b_var 0) (b_cons (b_lst (b_cons b_int (b_cons b_int (b_cons b_int (b_cons b_int (b_cons b_int (b_cons b_int (b_cons b_int (b_cons b_int (b_cons b_int (b_cons b_int (b_cons b_int (b_cons b_int (b_cons b_int (b_cons b_int (b_cons b_int b_nil)))))))))))))))) b_nil)))))), fun xs μ P R h => fRun_ok (run_seq (run_if (run_test (run_op run_eq (run_def (run_cons (run_var (i := 0)) (run_cons run_c run_nil))) run_c)) (run_ret (run_op run_add run_c (run_def (run_cons (run_var (i := 0)) (run_cons run_c run_nil))))) run_next) (run_ret (run_def (run_cons (run_var (i := 0)) (run_cons (run_lst (run_cons run_c (run_cons run_c (run_cons run_c (run_cons run_c (run_cons run_c (run_cons run_c (run_cons run_c (run_cons run_c (run_cons run_c (run_cons run_c (run_cons run_c (run_cons run_c (run_cons run_c (run_cons run_c (run_cons run_c run_nil)))))))))))))))) run_nil))))) h⟩
theorem ok_L_coding_table (T : Txt K mg h) : Ok P w K mg base 4 (He.ga K "_law_coding_table") ["drawer"] [] (fnFS (He.ga K) F_L_coding_table) := by
  obtain ⟨fd, F⟩ := T.s.def_ 26 (d := d_L_coding_table) rfl
  refine ok_fn F sc_L_coding_table (fun _ _ _ _ _ _ us hl => match us, hl with | [_], _ => rfl) (fun xs μ P R h => fRun_len h) (fun cdv A outer s H E hr => ?_)
  have tk : Takes (cxOf (L2.CX P w) P w K mg base N_L_coding_table "_law_coding_table" (defScope s_L_coding_table) (He.ga K "_law_coding_table") cdv A outer s H E) (WxOf E) := takes_of rfl rfl rfl rfl
  exact ⟨_, _, (bs_cons (b_if (b_cmpT op_eq op2_eq (b_call (ok_L_draw (K := K) T) (hr.mono (by first | decide | omega)) rfl (g_L_draw (K := K) T) tk (b_cons (b_var 0) (b_cons b_int b_nil))) b_int (nomark _)) (bs_one (b_ret (b_call (ok_L_ladder (K := K) T) (hr.mono (by first | decide | omega)) rfl (g_L_ladder (K := K) T) tk (b_cons (b_call (ok_L_draw (K := K) T) (hr.mono (by first | decide | omega)) rfl (g_L_draw (K := K) T) tk (b_cons (b_var 0) (b_cons b_int b_nil))) (b_cons (b_cmp op_eq op2_eq (b_call (ok_L_draw (K := K) T) (hr.mono (by first | decide | omega)) rfl (g_L_draw (K := K) T) tk (b_cons (b_var 0) (b_cons b_int b_nil))) b_int (nomark _)) (b_cons (b_call (ok_L_modulus (K := K) T) (hr.mono (by first | decide | omega)) rfl (g_L_modulus (K := K) T) tk (b_cons (b_var 0) b_nil)) b_nil)))))) bs_nil) (bs_one (b_ret (b_call (ok_L_any_table (K := K) T) (hr.mono (by first | decide | omega)) rfl (g_L_any_table (K := K) T) tk (b_cons (b_var 0) b_nil))))), fun xs μ P R h => fRun_ok (run_seq (run_if (run_test (run_op run_eq (run_def (run_cons (run_var (i := 0)) (run_cons run_c run_nil))) run_c)) (run_ret (run_def (run_cons (run_def (run_cons (run_var (i := 0)) (run_cons run_c run_nil))) (run_cons (run_op run_eq (run_def (run_cons (run_var (i := 0)) (run_cons run_c run_nil))) run_c) (run_cons (run_def (run_cons (run_var (i := 0)) run_nil)) run_nil))))) run_next) (run_ret (run_def (run_cons (run_var (i := 0)) run_nil)))) h⟩
theorem ok_L_drawer (T : Txt K mg h) : Ok P w K mg base 1 (He.ga K "_law_drawer") ["script", "k"] [] (fnFS (He.ga K) FRL.F_L_drawer) := by
  obtain ⟨fd, F⟩ := T.s.def_ 27 (d := d_L_drawer) rfl
  refine ok_fn F sc_L_drawer (fun _ _ _ _ _ _ us hl => match us, hl with | [_, _], _ => rfl) (fun xs μ P R h => fRun_len h) (fun cdv A outer s H E hr => ?_)
  have tk : Takes (cxOf (L2.CX P w) P w K mg base N_L_drawer "_law_drawer" (defScope s_L_drawer) (He.ga K "_law_drawer") cdv A outer s H E) (WxOf E) := takes_of rfl rfl rfl rfl
  exact ⟨_, _, (bs_cons (b_set 2 sc_L_drawer.nd rfl (by first | exact Or.inl rfl | exact Or.inr rfl) b_int) (bs_cons (b_if (b_cmpT op_lt op2_I0 (b_var 1) (b_cb call_len opc_len rfl (n_len (K := K) T) (by decide +kernel) (b_cons (b_var 0) b_nil)) (nomark _)) (bs_one (b_set 2 sc_L_drawer.nd rfl (by first | exact Or.inl rfl | exact Or.inr rfl) (b_cb call_abs opc_abs rfl (n_abs (K := K) T) (by decide +kernel) (b_cons (b_ix (b_var 0) (b_var 1)) b_nil)))) bs_nil) (bs_cons (b_set 3 sc_L_drawer.nd rfl (by first | exact Or.inl rfl | exact Or.inr rfl) (b_mod (b_cty call_int1 opc_int rfl (n_int (K := K) T) (by decide +kernel) (b_cons (b_add (b_add (b_var 2) (b_mulI b_int (b_var 1))) b_int) b_nil)) b_int)) (bs_cons (b_if (b_cmpT op_ge op2_I0 (b_var 2) (b_pow b_int b_int) (nomark _)) (bs_one (b_ret (b_lst (b_cons (b_sub (b_var 2) (b_pow b_int b_int)) (b_cons (b_var 3) (b_cons b_int b_nil)))))) bs_nil) (bs_one (b_ret (b_lst (b_cons b_int (b_cons (b_var 3) (b_cons b_int b_nil)))))))))), fun xs μ P R h => fRun_ok (run_seq (run_asg run_c run_name) (run_seq (run_if (run_test (run_op run_I0 (run_var (i := 1)) (run_cb run_len (run_cons (run_var (i := 0)) run_nil)))) (run_asg (run_cb run_abs (run_cons (run_op run_ix (run_var (i := 0)) (run_var (i := 1))) run_nil)) run_name) run_next) (run_seq (run_asg (run_op run_mod (run_cb run_int (run_cons (run_op run_add (run_op run_add (run_var (i := 2)) (run_op run_mul run_c (run_var (i := 1)))) run_c) run_nil)) run_c) run_name) (run_seq (run_if (run_test (run_op run_I0 (run_var (i := 2)) (run_op run_pow run_c run_c))) (run_ret (run_lst (run_cons (run_op run_I0 (run_var (i := 2)) (run_op run_pow run_c run_c)) (run_cons (run_var (i := 3)) (run_cons run_c run_nil))))) run_next) (run_ret (run_lst (run_cons run_c (run_cons (run_var (i := 3)) (run_cons run_c run_nil))))))))) h⟩
theorem ok_L_total (T : Txt K mg h) : Ok P w K mg base 1 (He.ga K "_law_total") ["rungs"] [] (fnFS (He.ga K) F_L_total) := by
  obtain ⟨fd, F⟩ := T.s.def_ 28 (d := d_L_total) rfl
  refine ok_fn F sc_L_total (fun _ _ _ _ _ _ us hl => match us, hl with | [_], _ => rfl) (fun xs μ P R h => fRun_len h) (fun cdv A outer s H E hr => ?_)
  have tk : Takes (cxOf (L2.CX P w) P w K mg base N_L_total "_law_total" (defScope s_L_total) (He.ga K "_law_total") cdv A outer s H E) (WxOf E) := takes_of rfl rfl rfl rfl
  exact ⟨_, _, (bs_one (b_ret (b_cb (cr_sum rfl) opc_sum rfl (n_sum (K := K) T) (by decide +kernel) (b_cons (b_lc rfl sc_L_total.nd (b_iS (b_var 0)) (blkOk_by (own := [("pair", 1)]) (N := N_L_total) rfl) (wipes_name (by decide)) (fun _ _ _ _ _ => (b_name 1 sc_L_total.nd rfl (by first | exact Or.inl rfl | exact Or.inr rfl))) (fun _ _ _ _ _ => b_noif) (fun _ _ _ _ _ => (b_shl b_int (b_ixk (K := K) (b_var 1) b_int)))) b_nil)))), fun xs μ P R h => fRun_ok (run_ret (run_cb run_sum (run_cons (run_lc (run_iS (run_var (i := 0))) run_name run_yes (run_op run_shl run_c (run_op run_ix (run_var (i := 1)) run_c))) run_nil))) h⟩
theorem ok_L_run_row (T : Txt K mg h) : Ok P w K mg base 3 (He.ga K "_law_run_row") ["drawer", "limit"] [] (fnFS (He.ga K) F_L_run_row) := by
  obtain ⟨fd, F⟩ := T.s.def_ 29 (d := d_L_run_row) rfl
  refine ok_fn F sc_L_run_row (fun _ _ _ _ _ _ us hl => match us, hl with | [_, _], _ => rfl) (fun xs μ P R h => fRun_len h) (fun cdv A outer s H E hr => ?_)
  have tk : Takes (cxOf (L2.CX P w) P w K mg base N_L_run_row "_law_run_row" (defScope s_L_run_row) (He.ga K "_law_run_row") cdv A outer s H E) (WxOf E) := takes_of rfl rfl rfl rfl
  exact ⟨_, _, (bs_cons (b_set 2 sc_L_run_row.nd rfl (by first | exact Or.inl rfl | exact Or.inr rfl) (b_call (ok_L_draw (K := K) T) (hr.mono (by first | decide | omega)) rfl (g_L_draw (K := K) T) tk (b_cons (b_var 0) (b_cons (b_call (ok_L_pick (K := K) T) (hr.mono (by first | decide | omega)) rfl (g_L_pick (K := K) T) tk (b_cons (b_var 0) (b_cons (b_lst (b_cons b_int (b_cons b_int (b_cons b_int (b_cons b_int (b_cons b_int (b_cons b_int (b_cons b_int (b_cons b_int b_nil))))))))) b_nil))) b_nil)))) (bs_cons (b_set 3 sc_L_run_row.nd rfl (by first | exact Or.inl rfl | exact Or.inr rfl) (b_lst b_nil)) (bs_cons (b_set 4 sc_L_run_row.nd rfl (by first | exact Or.inl rfl | exact Or.inr rfl) b_int) (bs_cons (b_for (passes_of rfl) rfl (b_iR1 rfl (n_range (K := K) T) (b_cons (b_var 2) b_nil)) (b_name 5 sc_L_run_row.nd rfl (by first | exact Or.inl rfl | exact Or.inr rfl)) (bs_cons (b_if (b_cmpT op_eq op2_eq (b_call (ok_L_draw (K := K) T) (hr.mono (by first | decide | omega)) rfl (g_L_draw (K := K) T) tk (b_cons (b_var 0) (b_cons b_int b_nil))) b_int (nomark _)) (bs_one (b_set 4 sc_L_run_row.nd rfl (by first | exact Or.inl rfl | exact Or.inr rfl) (b_call (ok_L_draw (K := K) T) (hr.mono (by first | decide | omega)) rfl (g_L_draw (K := K) T) tk (b_cons (b_var 0) (b_cons (b_var 1) b_nil))))) bs_nil) (bs_one (b_app (b_var 3) (b_var 4))))) (bs_frzV 3 (bs_one (b_ret (b_var 3)))))))), fun xs μ P R h => fRun_ok (run_seq (run_asg (run_def (run_cons (run_var (i := 0)) (run_cons (run_def (run_cons (run_var (i := 0)) (run_cons (run_lst (run_cons run_c (run_cons run_c (run_cons run_c (run_cons run_c (run_cons run_c (run_cons run_c (run_cons run_c (run_cons run_c run_nil))))))))) run_nil))) run_nil))) run_name) (run_seq (run_asg (run_lst run_nil) run_name) (run_seq (run_asg run_c run_name) (run_seq (run_for (run_iR1 (run_cons (run_var (i := 2)) run_nil)) run_name (run_seq (run_if (run_test (run_op run_eq (run_def (run_cons (run_var (i := 0)) (run_cons run_c run_nil))) run_c)) (run_asg (run_def (run_cons (run_var (i := 0)) (run_cons (run_var (i := 1)) run_nil))) run_name) run_next) (run_app (run_var (i := 3)) (run_var (i := 4))))) (run_frz (run_ret (run_var (i := 3)))))))) h⟩
theorem ok_L_some_tokens (T : Txt K mg h) : Ok P w K mg base 2 (He.ga K "_law_some_tokens") ["drawer", "numbers", "table"] [] (fnFS (He.ga K) F_L_some_tokens) := by
  obtain ⟨fd, F⟩ := T.s.def_ 30 (d := d_L_some_tokens) rfl
  refine ok_fn F sc_L_some_tokens (fun _ _ _ _ _ _ us hl => match us, hl with | [_, _, _], _ => rfl) (fun xs μ P R h => fRun_len h) (fun cdv A outer s H E hr => ?_)
  have tk : Takes (cxOf (L2.CX P w) P w K mg base N_L_some_tokens "_law_some_tokens" (defScope s_L_some_tokens) (He.ga K "_law_some_tokens") cdv A outer s H E) (WxOf E) := takes_of rfl rfl rfl rfl
  exact ⟨_, _, (bs_cons (b_set 3 sc_L_some_tokens.nd rfl (by first | exact Or.inl rfl | exact Or.inr rfl) (b_lst b_nil)) (bs_cons (b_set 4 sc_L_some_tokens.nd rfl (by first | exact Or.inl rfl | exact Or.inr rfl) b_int) (bs_cons (b_set 5 sc_L_some_tokens.nd rfl (by first | exact Or.inl rfl | exact Or.inr rfl) b_int) (bs_cons (b_for (passes_of rfl) rfl (b_iR1 rfl (n_range (K := K) T) (b_cons (b_cb call_len opc_len rfl (n_len (K := K) T) (by decide +kernel) (b_cons (b_var 1) b_nil)) b_nil)) (b_name 6 sc_L_some_tokens.nd rfl (by first | exact Or.inl rfl | exact Or.inr rfl)) (bs_one (b_if (b_cmpT op_lt op2_I0 (b_var 4) (b_cb call_len opc_len rfl (n_len (K := K) T) (by decide +kernel) (b_cons (b_var 1) b_nil)) (nomark _)) (bs_cons (b_set 7 sc_L_some_tokens.nd rfl (by first | exact Or.inl rfl | exact Or.inr rfl) b_int) (bs_cons (b_for (passes_of rfl) rfl (b_iS (b_sl (b_var 1) (b_po (b_var 4)) b_po_none)) (b_name 8 sc_L_some_tokens.nd rfl (by first | exact Or.inl rfl | exact Or.inr rfl)) (bs_cons (b_if (b_cmpT op_ne op2_ne (b_var 8) (b_var 5) (nomark _)) (bs_one b_break) bs_nil) (bs_one (b_set 7 sc_L_some_tokens.nd rfl (by first | exact Or.inl rfl | exact Or.inr rfl) (b_add (b_var 7) b_int))))) (bs_cons (b_if (b_cmpT op_notN op2_notN (b_ix (b_var 2) b_int) b_non (nomark _)) (bs_one (b_set 7 sc_L_some_tokens.nd rfl (by first | exact Or.inl rfl | exact Or.inr rfl) (b_cb (call_min2 rfl) opc_min2 rfl (n_min (K := K) T) (by decide +kernel) (b_cons (b_var 7) (b_cons (b_shl b_int (b_ix (b_ix (b_var 2) b_int) b_int)) b_nil))))) bs_nil) (bs_one (b_if (BW.t (b_and (b_cmpT op_notN op2_notN (b_ix (b_var 2) b_int) b_non (nomark _)) (b_and (b_cmpT op_gt op2_I0 (b_var 7) b_int (nomark _)) (b_and1 (b_cmpT op_eq op2_eq (b_call (ok_L_draw (K := K) T) (hr.mono (by first | decide | omega)) rfl (g_L_draw (K := K) T) tk (b_cons (b_var 0) (b_cons b_int b_nil))) b_int (nomark _)))))) (bs_cons (b_set 9 sc_L_some_tokens.nd rfl (by first | exact Or.inl rfl | exact Or.inr rfl) (b_add b_int (b_call (ok_L_draw (K := K) T) (hr.mono (by first | decide | omega)) rfl (g_L_draw (K := K) T) tk (b_cons (b_var 0) (b_cons (b_var 7) b_nil))))) (bs_cons (b_app (b_var 3) (b_tup (b_cons b_str (b_cons (b_var 9) b_nil)))) (bs_one (b_set 4 sc_L_some_tokens.nd rfl (by first | exact Or.inl rfl | exact Or.inr rfl) (b_add (b_var 4) (b_var 9)))))) (bs_cons (b_set 5 sc_L_some_tokens.nd rfl (by first | exact Or.inl rfl | exact Or.inr rfl) (b_ix (b_var 1) (b_var 4))) (bs_cons (b_app (b_var 3) (b_tup (b_cons b_str (b_cons (b_var 5) b_nil)))) (bs_one (b_set 4 sc_L_some_tokens.nd rfl (by first | exact Or.inl rfl | exact Or.inr rfl) (b_add (b_var 4) b_int)))))))))) bs_nil))) (bs_frzV 3 (bs_one (b_ret (b_var 3)))))))), fun xs μ P R h => fRun_ok (run_seq (run_asg (run_lst run_nil) run_name) (run_seq (run_asg run_c run_name) (run_seq (run_asg run_c run_name) (run_seq (run_for (run_iR1 (run_cons (run_cb run_len (run_cons (run_var (i := 1)) run_nil)) run_nil)) run_name (run_if (run_test (run_op run_I0 (run_var (i := 4)) (run_cb run_len (run_cons (run_var (i := 1)) run_nil)))) (run_seq (run_asg run_c run_name) (run_seq (run_for (run_iS (run_sl (run_var (i := 1)) (run_part (run_var (i := 4))) run_noPart)) run_name (run_seq (run_if (run_test (run_op run_ne (run_var (i := 8)) (run_var (i := 5)))) run_break run_next) (run_asg (run_op run_add (run_var (i := 7)) run_c) run_name))) (run_seq (run_if (run_test (run_op run_notN (run_op run_ix (run_var (i := 2)) run_c) run_c)) (run_asg (run_cb run_min2 (run_cons (run_var (i := 7)) (run_cons (run_op run_shl run_c (run_op run_ix (run_op run_ix (run_var (i := 2)) run_c) run_c)) run_nil))) run_name) run_next) (run_if (run_and (run_test (run_op run_notN (run_op run_ix (run_var (i := 2)) run_c) run_c)) (run_and (run_test (run_op run_I0 (run_var (i := 7)) run_c)) (run_test (run_op run_eq (run_def (run_cons (run_var (i := 0)) (run_cons run_c run_nil))) run_c)))) (run_seq (run_asg (run_op run_add run_c (run_def (run_cons (run_var (i := 0)) (run_cons (run_var (i := 7)) run_nil)))) run_name) (run_seq (run_app (run_var (i := 3)) (run_tup (run_cons run_c (run_cons (run_var (i := 9)) run_nil)))) (run_asg (run_op run_add (run_var (i := 4)) (run_var (i := 9))) run_name))) (run_seq (run_asg (run_op run_ix (run_var (i := 1)) (run_var (i := 4))) run_name) (run_seq (run_app (run_var (i := 3)) (run_tup (run_cons run_c (run_cons (run_var (i := 5)) run_nil)))) (run_asg (run_op run_add (run_var (i := 4)) run_c) run_name))))))) run_next)) (run_frz (run_ret (run_var (i := 3)))))))) h⟩
theorem ok_L_int (T : Txt K mg h) : Ok P w K mg base 1 (He.ga K "_law_int") ["value"] [] (fnFS (He.ga K) FRL.F_L_int) := by
  obtain ⟨fd, F⟩ := T.s.def_ 31 (d := d_L_int) rfl
  refine ok_fn F sc_L_int (fun _ _ _ _ _ _ us hl => match us, hl with | [_], _ => rfl) (fun xs μ P R h => fRun_len h) (fun cdv A outer s H E hr => ?_)
  have tk : Takes (cxOf (L2.CX P w) P w K mg base N_L_int "_law_int" (defScope s_L_int) (He.ga K "_law_int") cdv A outer s H E) (WxOf E) := takes_of rfl rfl rfl rfl
  exact ⟨_, _, (bs_one (b_ret (b_andV (b_cb call_isi opc_isi rfl (n_isinstance (K := K) T) (by decide +kernel) (b_cons (b_var 0) (b_cons (b_bltn (v := (.ty "int")) rfl (n_int (K := K) T) (by decide +kernel) rfl) b_nil))) (b_oneV (b_notV (b_cb call_isi opc_isi rfl (n_isinstance (K := K) T) (by decide +kernel) (b_cons (b_var 0) (b_cons (b_bltn (v := (.ty "bool")) rfl (n_bool (K := K) T) (by decide +kernel) rfl) b_nil)))))))), fun xs μ P R h => fRun_ok (run_ret (run_andV (run_cb run_isi (run_cons (run_var (i := 0)) (run_cons run_c run_nil))) (run_notV (run_cb run_isi (run_cons (run_var (i := 0)) (run_cons run_c run_nil)))))) h⟩
theorem ok_L_same (T : Txt K mg h) : ∀ n, Ok P w K mg base (n + 2) (He.ga K "_law_same") ["got", "due"] [] (fnFS (He.ga K) (FRL.F_L_same n)) := by
  intro n
  obtain ⟨fd, F⟩ := T.s.def_ 32 (d := d_L_same) rfl
  induction n with
  | zero => exact ok_none F (fun _ _ _ _ _ _ us hl => match us, hl with | [_, _], _ => rfl) (fun xs μ P R h => by obtain ⟨r, h, _⟩ := h; cases h)
  | succ n ih =>
    rw [show n + 1 + 2 = n + 2 + 1 by omega]
    refine ok_fn F sc_L_same (fun _ _ _ _ _ _ us hl => match us, hl with | [_, _], _ => rfl) (fun xs μ P R h => fRun_len h) (fun cdv A outer s H E hr => ?_)
    have tk : Takes (cxOf (L2.CX P w) P w K mg base N_L_same "_law_same" (defScope s_L_same) (He.ga K "_law_same") cdv A outer s H E) (WxOf E) := takes_of rfl rfl rfl rfl
    exact ⟨_, _, (bs_cons (b_if (b_cmpT op_isN op2_isN (b_var 1) b_non (nomark _)) (bs_one (b_ret (b_cmp op_isN op2_isN (b_var 0) b_non (nomark _)))) bs_nil) (bs_cons (b_if (b_cmpT op_isBA op2_isB (b_var 1) b_bl (nomark _)) (bs_one (b_ret (b_cmp op_isBA op2_isB (b_var 0) b_bl (nomark _)))) bs_nil) (bs_cons (b_if (b_cmpT op_isBA op2_isB (b_var 1) b_bl (nomark _)) (bs_one (b_ret (b_cmp op_isBA op2_isB (b_var 0) b_bl (nomark _)))) bs_nil) (bs_cons (b_if (b_val (b_cb call_isi opc_isi rfl (n_isinstance (K := K) T) (by decide +kernel) (b_cons (b_var 1) (b_cons (b_bltn (v := (.ty "int")) rfl (n_int (K := K) T) (by decide +kernel) rfl) b_nil)))) (bs_one (b_ret (b_andV (b_call (ok_L_int (K := K) T) (hr.mono (by first | decide | omega)) rfl (g_L_int (K := K) T) tk (b_cons (b_var 0) b_nil)) (b_oneV (b_eqDk (K := K) (hr.mono (Nat.le_refl _)) (b_var 0) (b_var 1) (nomark _)))))) bs_nil) (bs_cons (b_if (b_val (b_cb call_isi opc_isi rfl (n_isinstance (K := K) T) (by decide +kernel) (b_cons (b_var 1) (b_cons (b_bltn (v := (.ty "str")) rfl (n_str (K := K) T) (by decide +kernel) rfl) b_nil)))) (bs_one (b_ret (b_andV (b_cb call_isi opc_isi rfl (n_isinstance (K := K) T) (by decide +kernel) (b_cons (b_var 0) (b_cons (b_bltn (v := (.ty "str")) rfl (n_str (K := K) T) (by decide +kernel) rfl) b_nil))) (b_oneV (b_eqDk (K := K) (hr.mono (Nat.le_refl _)) (b_var 0) (b_var 1) (nomark _)))))) bs_nil) (bs_cons (b_if (b_val (b_cb call_isi opc_isi rfl (n_isinstance (K := K) T) (by decide +kernel) (b_cons (b_var 1) (b_cons (b_bltn (v := (.ty "tuple")) rfl (n_tuple (K := K) T) (by decide +kernel) rfl) b_nil)))) (bs_one (b_if (b_not (b_val (b_cb call_isi opc_isi rfl (n_isinstance (K := K) T) (by decide +kernel) (b_cons (b_var 0) (b_cons (b_bltn (v := (.ty "tuple")) rfl (n_tuple (K := K) T) (by decide +kernel) rfl) b_nil))))) (bs_one (b_ret b_bl)) bs_nil)) (bs_one (b_if (b_not (b_val (b_cb call_isi opc_isi rfl (n_isinstance (K := K) T) (by decide +kernel) (b_cons (b_var 0) (b_cons (b_bltn (v := (.ty "list")) rfl (n_list (K := K) T) (by decide +kernel) rfl) b_nil))))) (bs_one (b_ret b_bl)) bs_nil))) (bs_cons (b_if (b_cmpT op_ne op2_ne (b_cb call_len opc_len rfl (n_len (K := K) T) (by decide +kernel) (b_cons (b_var 0) b_nil)) (b_cb call_len opc_len rfl (n_len (K := K) T) (by decide +kernel) (b_cons (b_var 1) b_nil)) (nomark _)) (bs_one (b_ret b_bl)) bs_nil) (bs_cons (b_for (passes_of rfl) rfl (b_iR1 rfl (n_range (K := K) T) (b_cons (b_cb call_len opc_len rfl (n_len (K := K) T) (by decide +kernel) (b_cons (b_var 1) b_nil)) b_nil)) (b_name 2 sc_L_same.nd rfl (by first | exact Or.inl rfl | exact Or.inr rfl)) (bs_one (b_if (b_not (b_val (b_call ih (hr.mono (by first | decide | omega)) rfl (g_L_same (K := K) T) tk (b_cons (b_ix (b_var 0) (b_var 2)) (b_cons (b_ix (b_var 1) (b_var 2)) b_nil))))) (bs_one (b_ret b_bl)) bs_nil))) (bs_one (b_ret b_bl)))))))))), fun xs μ P R h => fRun_ok (run_seq (run_if (run_test (run_op run_isN (run_var (i := 1)) run_c)) (run_ret (run_op run_isN (run_var (i := 0)) run_c)) run_next) (run_seq (run_if (run_test (run_op run_isB (run_var (i := 1)) run_c)) (run_ret (run_op run_isB (run_var (i := 0)) run_c)) run_next) (run_seq (run_if (run_test (run_op run_isB (run_var (i := 1)) run_c)) (run_ret (run_op run_isB (run_var (i := 0)) run_c)) run_next) (run_seq (run_if (run_test (run_cb run_isi (run_cons (run_var (i := 1)) (run_cons run_c run_nil)))) (run_ret (run_andV (run_def (run_cons (run_var (i := 0)) run_nil)) (run_op run_eqD (run_var (i := 0)) (run_var (i := 1))))) run_next) (run_seq (run_if (run_test (run_cb run_isi (run_cons (run_var (i := 1)) (run_cons run_c run_nil)))) (run_ret (run_andV (run_cb run_isi (run_cons (run_var (i := 0)) (run_cons run_c run_nil))) (run_op run_eqD (run_var (i := 0)) (run_var (i := 1))))) run_next) (run_seq (run_if (run_test (run_cb run_isi (run_cons (run_var (i := 1)) (run_cons run_c run_nil)))) (run_if (run_not (run_test (run_cb run_isi (run_cons (run_var (i := 0)) (run_cons run_c run_nil))))) (run_ret run_c) run_next) (run_if (run_not (run_test (run_cb run_isi (run_cons (run_var (i := 0)) (run_cons run_c run_nil))))) (run_ret run_c) run_next)) (run_seq (run_if (run_test (run_op run_ne (run_cb run_len (run_cons (run_var (i := 0)) run_nil)) (run_cb run_len (run_cons (run_var (i := 1)) run_nil)))) (run_ret run_c) run_next) (run_seq (run_for (run_iR1 (run_cons (run_cb run_len (run_cons (run_var (i := 1)) run_nil)) run_nil)) run_name (run_if (run_not (run_test (run_def (run_cons (run_op run_ix (run_var (i := 0)) (run_var (i := 2))) (run_cons (run_op run_ix (run_var (i := 1)) (run_var (i := 2))) run_nil))))) (run_ret run_c) run_next)) (run_ret run_c))))))))) h⟩
theorem ok_price (T : Txt K mg h) : Ok P w K mg base 6 (He.ga K "price") ["numbers", "table"] [] (fnFS (He.ga K) (F_price K)) := by
  obtain ⟨fd, F⟩ := T.s.def_ 33 (d := d_price) rfl
  refine ok_fn F sc_price (fun _ _ _ _ _ _ us hl => match us, hl with | [_, _], _ => rfl) (fun xs μ P R h => fRun_len h) (fun cdv A outer s H E hr => ?_)
  have tk : Takes (cxOf (L2.CX P w) P w K mg base N_price "price" (defScope s_price) (He.ga K "price") cdv A outer s H E) (WxOf E) := takes_of rfl rfl rfl rfl
  exact ⟨_, _, (bs_cons (b_asg (b_call (ok_fewest_bits (K := K) T) (hr.mono (by first | decide | omega)) rfl (g_fewest_bits (K := K) T) tk (b_cons (b_var 0) (b_cons (b_var 1) b_nil))) (b_gtup (n := 2) rfl (b_gcons (b_name 2 sc_price.nd rfl (by first | exact Or.inl rfl | exact Or.inr rfl)) (b_gcons (b_name 3 sc_price.nd rfl (by first | exact Or.inl rfl | exact Or.inr rfl)) b_gnil)))) (bs_one (b_ret (b_var 2)))), fun xs μ P R h => fRun_ok (run_seq (run_asg (run_def (run_cons (run_var (i := 0)) (run_cons (run_var (i := 1)) run_nil))) (run_gtup (run_gcons run_name (run_gcons run_name run_gnil)))) (run_ret (run_var (i := 2)))) h⟩
theorem ok_L_wins (T : Txt K mg h) : Ok P w K mg base 1 (He.ga K "_law_wins") ["told", "rival"] [] (fnFS (He.ga K) F_L_wins) := by
  obtain ⟨fd, F⟩ := T.s.def_ 34 (d := d_L_wins) rfl
  refine ok_fn F sc_L_wins (fun _ _ _ _ _ _ us hl => match us, hl with | [_, _], _ => rfl) (fun xs μ P R h => fRun_len h) (fun cdv A outer s H E hr => ?_)
  have tk : Takes (cxOf (L2.CX P w) P w K mg base N_L_wins "_law_wins" (defScope s_L_wins) (He.ga K "_law_wins") cdv A outer s H E) (WxOf E) := takes_of rfl rfl rfl rfl
  exact ⟨_, _, (bs_cons (b_for (passes_of rfl) rfl (b_iR1 rfl (n_range (K := K) T) (b_cons (b_cb (call_min2 rfl) opc_min2 rfl (n_min (K := K) T) (by decide +kernel) (b_cons (b_cb call_len opc_len rfl (n_len (K := K) T) (by decide +kernel) (b_cons (b_var 0) b_nil)) (b_cons (b_cb call_len opc_len rfl (n_len (K := K) T) (by decide +kernel) (b_cons (b_var 1) b_nil)) b_nil))) b_nil)) (b_name 2 sc_L_wins.nd rfl (by first | exact Or.inl rfl | exact Or.inr rfl)) (bs_one (b_if (b_neDTk (K := K) (hr.mono (Nat.le_refl _)) (b_ix (b_var 0) (b_var 2)) (b_ix (b_var 1) (b_var 2)) (nomark _)) (bs_cons (b_set 3 sc_L_wins.nd rfl (by first | exact Or.inl rfl | exact Or.inr rfl) (b_lst (b_cons b_int (b_cons b_int b_nil)))) (bs_cons (b_if (b_cmpT op_eq op2_eq (b_ix (b_ix (b_var 0) (b_var 2)) b_int) b_str (nomark _)) (bs_one (b_setL (b_var 3) b_int (b_ix (b_ix (b_var 0) (b_var 2)) b_int) (pg_sub (BE.pe (Wx := WxOf E) (b_var 3)) (BE.pe (Wx := WxOf E) b_int) set_list))) bs_nil) (bs_cons (b_if (b_cmpT op_eq op2_eq (b_ix (b_ix (b_var 1) (b_var 2)) b_int) b_str (nomark _)) (bs_one (b_setL (b_var 3) b_int (b_ix (b_ix (b_var 1) (b_var 2)) b_int) (pg_sub (BE.pe (Wx := WxOf E) (b_var 3)) (BE.pe (Wx := WxOf E) b_int) set_list))) bs_nil) (bs_frzV 3 (bs_one (b_ret (b_orV (b_cmp op_gt op2_I0 (b_ix (b_var 3) b_int) (b_ix (b_var 3) b_int) (nomark _)) (b_oneV (b_andV (b_cmp op_eq op2_eq (b_ix (b_var 3) b_int) (b_ix (b_var 3) b_int) (nomark _)) (b_oneV (b_cmp op_eq op2_eq (b_ix (b_ix (b_var 0) (b_var 2)) b_int) b_str (nomark _)))))))))))) bs_nil))) (bs_one (b_ret (b_cmp op_eq op2_eq (b_cb call_len opc_len rfl (n_len (K := K) T) (by decide +kernel) (b_cons (b_var 0) b_nil)) (b_cb call_len opc_len rfl (n_len (K := K) T) (by decide +kernel) (b_cons (b_var 1) b_nil)) (nomark _))))), fun xs μ P R h => fRun_ok (run_seq (run_for (run_iR1 (run_cons (run_cb run_min2 (run_cons (run_cb run_len (run_cons (run_var (i := 0)) run_nil)) (run_cons (run_cb run_len (run_cons (run_var (i := 1)) run_nil)) run_nil))) run_nil)) run_name (run_if (run_test (run_op run_neD (run_op run_ix (run_var (i := 0)) (run_var (i := 2))) (run_op run_ix (run_var (i := 1)) (run_var (i := 2))))) (run_seq (run_asg (run_lst (run_cons run_c (run_cons run_c run_nil))) run_name) (run_seq (run_if (run_test (run_op run_eq (run_op run_ix (run_op run_ix (run_var (i := 0)) (run_var (i := 2))) run_c) run_c)) (run_set (run_var (i := 3)) run_c (run_op run_ix (run_op run_ix (run_var (i := 0)) (run_var (i := 2))) run_c)) run_next) (run_seq (run_if (run_test (run_op run_eq (run_op run_ix (run_op run_ix (run_var (i := 1)) (run_var (i := 2))) run_c) run_c)) (run_set (run_var (i := 3)) run_c (run_op run_ix (run_op run_ix (run_var (i := 1)) (run_var (i := 2))) run_c)) run_next) (run_frz (run_ret (run_orV (run_op run_I0 (run_op run_ix (run_var (i := 3)) run_c) (run_op run_ix (run_var (i := 3)) run_c)) (run_andV (run_op run_eq (run_op run_ix (run_var (i := 3)) run_c) (run_op run_ix (run_var (i := 3)) run_c)) (run_op run_eq (run_op run_ix (run_op run_ix (run_var (i := 0)) (run_var (i := 2))) run_c) run_c)))))))) run_next)) (run_ret (run_op run_eq (run_cb run_len (run_cons (run_var (i := 0)) run_nil)) (run_cb run_len (run_cons (run_var (i := 1)) run_nil))))) h⟩
theorem ok_law (T : Txt K mg h) : ∃ fd : FuncData, (∀ (s : Shared) (v : Value), BindsTo s fd ⟨[v], []⟩ [("script", v)]) ∧ ∀ base : Heap, FnD P w K mg base 11 (He.ga K "law") fd ["script"] (fnFS (He.ga K) (F_law K)) := by
  obtain ⟨fd, F⟩ := T.s.def_ 35 (d := d_law) rfl
  have b := FunD.bindsA (ps := ["script"]) F fun _ _ _ _ _ _ us hl => match us, hl with | [_], _ => rfl
  refine ⟨fd, fun s v => b s [v] rfl, fun base => fn_dd F sc_law (fun xs μ P R h => fRun_len h) (fun cdv A outer s H E hr => ?_)⟩
  have tk : Takes (cxOf (L2.CX P w) P w K mg base N_law "law" (defScope s_law) (He.ga K "law") cdv A outer s H E) (WxOf E) := takes_of rfl rfl rfl rfl
  exact ⟨_, _, (bs_cons (b_set 1 sc_law.nd rfl (by first | exact Or.inl rfl | exact Or.inr rfl) (b_tup (b_cons (b_tup (b_cons (b_tup (b_cons b_int (b_cons b_int b_nil))) (b_cons (b_tup (b_cons b_int (b_cons b_int b_nil))) b_nil))) (b_cons (b_tup (b_cons b_int (b_cons b_int b_nil))) b_nil)))) (bs_cons (b_set 2 sc_law.nd rfl (by first | exact Or.inl rfl | exact Or.inr rfl) (b_lst (b_cons b_int (b_cons b_int (b_cons b_int (b_cons b_int (b_cons b_int b_nil))))))) (bs_cons (b_set 3 sc_law.nd rfl (by first | exact Or.inl rfl | exact Or.inr rfl) (b_lst (b_cons (b_tup (b_cons b_str (b_cons b_int b_nil))) (b_cons (b_tup (b_cons b_str (b_cons b_int b_nil))) (b_cons (b_tup (b_cons b_str (b_cons b_int b_nil))) (b_cons (b_tup (b_cons b_str (b_cons b_int b_nil))) (b_cons (b_tup (b_cons b_str (b_cons b_int b_nil))) b_nil))))))) (bs_cons (b_if (b_cmpT op_gt op2_I0 (b_cb call_len opc_len rfl (n_len (K := K) T) (by decide +kernel) (b_cons (b_var 0) b_nil)) b_int (nomark _)) (bs_cons (b_set 1 sc_law.nd rfl (by first | exact Or.inl rfl | exact Or.inr rfl) (b_call (ok_L_coding_table (K := K) T) (hr.mono (by first | decide | omega)) rfl (g_L_coding_table (K := K) T) tk (b_cons (b_call (ok_L_drawer (K := K) T) (hr.mono (by first | decide | omega)) rfl (g_L_drawer (K := K) T) tk (b_cons (b_var 0) (b_cons b_int b_nil))) b_nil))) (bs_cons (b_set 4 sc_law.nd rfl (by first | exact Or.inl rfl | exact Or.inr rfl) (b_call (ok_L_drawer (K := K) T) (hr.mono (by first | decide | omega)) rfl (g_L_drawer (K := K) T) tk (b_cons (b_var 0) (b_cons b_int b_nil)))) (bs_cons (b_set 5 sc_law.nd rfl (by first | exact Or.inl rfl | exact Or.inr rfl) (b_call (ok_L_total (K := K) T) (hr.mono (by first | decide | omega)) rfl (g_L_total (K := K) T) tk (b_cons (b_ix (b_var 1) b_int) b_nil))) (bs_cons (b_set 2 sc_law.nd rfl (by first | exact Or.inl rfl | exact Or.inr rfl) (b_call (ok_L_run_row (K := K) T) (hr.mono (by first | decide | omega)) rfl (g_L_run_row (K := K) T) tk (b_cons (b_var 4) (b_cons (b_call (ok_L_pick (K := K) T) (hr.mono (by first | decide | omega)) rfl (g_L_pick (K := K) T) tk (b_cons (b_var 4) (b_cons (b_lst (b_cons (b_var 5) (b_cons (b_cb (call_min2 rfl) opc_min2 rfl (n_min (K := K) T) (by decide +kernel) (b_cons (b_var 5) (b_cons b_int b_nil))) b_nil))) b_nil))) b_nil)))) (bs_one (b_set 3 sc_law.nd rfl (by first | exact Or.inl rfl | exact Or.inr rfl) (b_call (ok_L_some_tokens (K := K) T) (hr.mono (by first | decide | omega)) rfl (g_L_some_tokens (K := K) T) tk (b_cons (b_call (ok_L_drawer (K := K) T) (hr.mono (by first | decide | omega)) rfl (g_L_drawer (K := K) T) tk (b_cons (b_var 0) (b_cons b_int b_nil))) (b_cons (b_var 2) (b_cons (b_var 1) b_nil)))))))))) bs_nil) (bs_cons (b_set 6 sc_law.nd rfl (by first | exact Or.inl rfl | exact Or.inr rfl) (b_make (He.mkr_ok (T.s.fact 56 (f := .mkr "Table") rfl)) (ok_Table_init_0 (K := K) T) (hr.mono (by first | decide | omega)) rfl (g_Table (K := K) T) tk (b_cons (b_cty call_list_of opc_list rfl (n_list (K := K) T) (by decide +kernel) (b_cons (b_ix (b_var 1) b_int) b_nil)) (b_cons (b_ix (b_var 1) b_int) b_nil)))) (bs_cons (b_set 7 sc_law.nd rfl (by first | exact Or.inl rfl | exact Or.inr rfl) (b_cty call_list_of opc_list rfl (n_list (K := K) T) (by decide +kernel) (b_cons (b_var 2) b_nil))) (bs_cons (b_asg (b_call (ok_L_least (K := K) T) (hr.mono (by first | decide | omega)) rfl (g_L_least (K := K) T) tk (b_cons (b_var 2) (b_cons (b_var 1) b_nil))) (b_gtup (n := 2) rfl (b_gcons (b_name 8 sc_law.nd rfl (by first | exact Or.inl rfl | exact Or.inr rfl)) (b_gcons (b_name 9 sc_law.nd rfl (by first | exact Or.inl rfl | exact Or.inr rfl)) b_gnil)))) (bs_cons (b_set 10 sc_law.nd rfl (by first | exact Or.inl rfl | exact Or.inr rfl) (b_call (ok_least_tokens (K := K) T) (hr.mono (by first | decide | omega)) rfl (g_least_tokens (K := K) T) tk (b_cons (b_var 7) (b_cons (b_var 6) b_nil)))) (bs_cons (b_if (BW.t (b_or (b_not (b_val (b_call (ok_L_same (K := K) T 8) (hr.mono (by first | decide | omega)) rfl (g_L_same (K := K) T) tk (b_cons (b_var 10) (b_cons (b_var 8) b_nil))))) (b_or1 (b_not (b_val (b_call (ok_L_same (K := K) T 8) (hr.mono (by first | decide | omega)) rfl (g_L_same (K := K) T) tk (b_cons (b_call (ok_price (K := K) T) (hr.mono (by first | decide | omega)) rfl (g_price (K := K) T) tk (b_cons (b_var 7) (b_cons (b_var 6) b_nil))) (b_cons (b_var 9) b_nil)))))))) (bs_one (b_ret b_bl)) bs_nil) (bs_cons (b_set 11 sc_law.nd rfl (by first | exact Or.inl rfl | exact Or.inr rfl) (b_call (ok_L_bits_of (K := K) T) (hr.mono (by first | decide | omega)) rfl (g_L_bits_of (K := K) T) tk (b_cons (b_var 3) (b_cons (b_var 1) b_nil)))) (bs_cons (b_if (BW.t (b_or (b_cmpT op_lt op2_I0 (b_var 11) (b_var 9) (nomark _)) (b_or1 (BW.t (b_and (b_eqDTk (K := K) (hr.mono (Nat.le_refl _)) (b_var 11) (b_var 9) (nomark _)) (b_and1 (b_not (b_val (b_call (ok_L_wins (K := K) T) (hr.mono (by first | decide | omega)) rfl (g_L_wins (K := K) T) tk (b_cons (b_var 10) (b_cons (b_var 3) b_nil))))))))))) (bs_one (b_ret b_bl)) bs_nil) (bs_cons (b_set 12 sc_law.nd rfl (by first | exact Or.inl rfl | exact Or.inr rfl) (b_add (b_revL (b_var 2)) (b_lst (b_cons b_int (b_cons b_int b_nil))))) (bs_cons (b_asg (b_call (ok_L_least (K := K) T) (hr.mono (by first | decide | omega)) rfl (g_L_least (K := K) T) tk (b_cons (b_var 12) (b_cons (b_var 1) b_nil))) (b_gtup (n := 2) rfl (b_gcons (b_name 13 sc_law.nd rfl (by first | exact Or.inl rfl | exact Or.inr rfl)) (b_gcons (b_name 14 sc_law.nd rfl (by first | exact Or.inl rfl | exact Or.inr rfl)) b_gnil)))) (bs_cons (b_if (BW.t (b_or (b_not (b_val (b_call (ok_L_same (K := K) T 8) (hr.mono (by first | decide | omega)) rfl (g_L_same (K := K) T) tk (b_cons (b_call (ok_price (K := K) T) (hr.mono (by first | decide | omega)) rfl (g_price (K := K) T) tk (b_cons (b_cty call_list_of opc_list rfl (n_list (K := K) T) (by decide +kernel) (b_cons (b_var 12) b_nil)) (b_cons (b_var 6) b_nil))) (b_cons (b_var 14) b_nil))))) (b_or1 (b_not (b_val (b_call (ok_L_same (K := K) T 8) (hr.mono (by first | decide | omega)) rfl (g_L_same (K := K) T) tk (b_cons (b_call (ok_least_tokens (K := K) T) (hr.mono (by first | decide | omega)) rfl (g_least_tokens (K := K) T) tk (b_cons (b_cty call_list_of opc_list rfl (n_list (K := K) T) (by decide +kernel) (b_cons (b_var 12) b_nil)) (b_cons (b_var 6) b_nil))) (b_cons (b_var 13) b_nil)))))))) (bs_one (b_ret b_bl)) bs_nil) (bs_cons (b_if (BW.t (b_or (b_not (b_val (b_call (ok_L_same (K := K) T 8) (hr.mono (by first | decide | omega)) rfl (g_L_same (K := K) T) tk (b_cons (b_call (ok_least_tokens (K := K) T) (hr.mono (by first | decide | omega)) rfl (g_least_tokens (K := K) T) tk (b_cons (b_var 7) (b_cons (b_var 6) b_nil))) (b_cons (b_var 8) b_nil))))) (b_or1 (b_not (b_val (b_call (ok_L_same (K := K) T 8) (hr.mono (by first | decide | omega)) rfl (g_L_same (K := K) T) tk (b_cons (b_call (ok_price (K := K) T) (hr.mono (by first | decide | omega)) rfl (g_price (K := K) T) tk (b_cons (b_var 7) (b_cons (b_var 6) b_nil))) (b_cons (b_var 9) b_nil)))))))) (bs_one (b_ret b_bl)) bs_nil) (bs_one (b_ret (b_eqDk (K := K) (hr.mono (Nat.le_refl _)) (b_var 7) (b_var 2) (nomark _))))))))))))))))))), fun xs μ P R h => fRun_ok (run_seq (run_asg (run_tup (run_cons (run_tup (run_cons (run_tup (run_cons run_c (run_cons run_c run_nil))) (run_cons (run_tup (run_cons run_c (run_cons run_c run_nil))) run_nil))) (run_cons (run_tup (run_cons run_c (run_cons run_c run_nil))) run_nil))) run_name) (run_seq (run_asg (run_lst (run_cons run_c (run_cons run_c (run_cons run_c (run_cons run_c (run_cons run_c run_nil)))))) run_name) (run_seq (run_asg (run_lst (run_cons (run_tup (run_cons run_c (run_cons run_c run_nil))) (run_cons (run_tup (run_cons run_c (run_cons run_c run_nil))) (run_cons (run_tup (run_cons run_c (run_cons run_c run_nil))) (run_cons (run_tup (run_cons run_c (run_cons run_c run_nil))) (run_cons (run_tup (run_cons run_c (run_cons run_c run_nil))) run_nil)))))) run_name) (run_seq (run_if (run_test (run_op run_I0 (run_cb run_len (run_cons (run_var (i := 0)) run_nil)) run_c)) (run_seq (run_asg (run_def (run_cons (run_def (run_cons (run_var (i := 0)) (run_cons run_c run_nil))) run_nil)) run_name) (run_seq (run_asg (run_def (run_cons (run_var (i := 0)) (run_cons run_c run_nil))) run_name) (run_seq (run_asg (run_def (run_cons (run_op run_ix (run_var (i := 1)) run_c) run_nil)) run_name) (run_seq (run_asg (run_def (run_cons (run_var (i := 4)) (run_cons (run_def (run_cons (run_var (i := 4)) (run_cons (run_lst (run_cons (run_var (i := 5)) (run_cons (run_cb run_min2 (run_cons (run_var (i := 5)) (run_cons run_c run_nil))) run_nil))) run_nil))) run_nil))) run_name) (run_asg (run_def (run_cons (run_def (run_cons (run_var (i := 0)) (run_cons run_c run_nil))) (run_cons (run_var (i := 2)) (run_cons (run_var (i := 1)) run_nil)))) run_name))))) run_next) (run_seq (run_asg (run_new (run_cons (run_cb run_list (run_cons (run_op run_ix (run_var (i := 1)) run_c) run_nil)) (run_cons (run_op run_ix (run_var (i := 1)) run_c) run_nil))) run_name) (run_seq (run_asg (run_cb run_list (run_cons (run_var (i := 2)) run_nil)) run_name) (run_seq (run_asg (run_def (run_cons (run_var (i := 2)) (run_cons (run_var (i := 1)) run_nil))) (run_gtup (run_gcons run_name (run_gcons run_name run_gnil)))) (run_seq (run_asg (run_def (run_cons (run_var (i := 7)) (run_cons (run_var (i := 6)) run_nil))) run_name) (run_seq (run_if (run_or (run_not (run_test (run_def (run_cons (run_var (i := 10)) (run_cons (run_var (i := 8)) run_nil))))) (run_not (run_test (run_def (run_cons (run_def (run_cons (run_var (i := 7)) (run_cons (run_var (i := 6)) run_nil))) (run_cons (run_var (i := 9)) run_nil)))))) (run_ret run_c) run_next) (run_seq (run_asg (run_def (run_cons (run_var (i := 3)) (run_cons (run_var (i := 1)) run_nil))) run_name) (run_seq (run_if (run_or (run_test (run_op run_I0 (run_var (i := 11)) (run_var (i := 9)))) (run_and (run_test (run_op run_eqD (run_var (i := 11)) (run_var (i := 9)))) (run_not (run_test (run_def (run_cons (run_var (i := 10)) (run_cons (run_var (i := 3)) run_nil))))))) (run_ret run_c) run_next) (run_seq (run_asg (run_op run_add (run_revL (run_var (i := 2))) (run_lst (run_cons run_c (run_cons run_c run_nil)))) run_name) (run_seq (run_asg (run_def (run_cons (run_var (i := 12)) (run_cons (run_var (i := 1)) run_nil))) (run_gtup (run_gcons run_name (run_gcons run_name run_gnil)))) (run_seq (run_if (run_or (run_not (run_test (run_def (run_cons (run_def (run_cons (run_cb run_list (run_cons (run_var (i := 12)) run_nil)) (run_cons (run_var (i := 6)) run_nil))) (run_cons (run_var (i := 14)) run_nil))))) (run_not (run_test (run_def (run_cons (run_def (run_cons (run_cb run_list (run_cons (run_var (i := 12)) run_nil)) (run_cons (run_var (i := 6)) run_nil))) (run_cons (run_var (i := 13)) run_nil)))))) (run_ret run_c) run_next) (run_seq (run_if (run_or (run_not (run_test (run_def (run_cons (run_def (run_cons (run_var (i := 7)) (run_cons (run_var (i := 6)) run_nil))) (run_cons (run_var (i := 8)) run_nil))))) (run_not (run_test (run_def (run_cons (run_def (run_cons (run_var (i := 7)) (run_cons (run_var (i := 6)) run_nil))) (run_cons (run_var (i := 9)) run_nil)))))) (run_ret run_c) run_next) (run_ret (run_op run_eqD (run_var (i := 7)) (run_var (i := 2))))))))))))))))))) h⟩
end
end
end K29

set_option Elab.async false
set_option linter.all false
set_option maxRecDepth 100000
set_option maxHeartbeats 4000000
namespace K29
open PySem L2 Evl DL FR FRL
local macro_rules | `(tactic| walk_at "ev") => `(tactic| simp (disch := omega) only [iET, fCon, fStar, oShr, cNn_r, cMax2, fExt, cAll, cAny, cLB, cSum, cLI, iRevR1, fRun, fin_nx, fin_rt, fin_xc, fin_none, fin_ite, cMul_l, cMul_r, cDiv_r, cPos_r, cPow_r, Nat.not_lt_zero,  fSeq, fIf, fAsg, fAug, oRep, oRepT, fRet, fRetN, fNext, fVar, fC, fOp, fUn, fTest, fAnd, fOr, fNot, fAndV, fOrV, fNotV, fIfE, fNil, fCons, fTup, fLst, fCB, fDef, fDrop, fSet, fApp, fTru, fChain, asB, cLen, cInt, cAbs, cMin2, cIsi, oI, oI0, oMul, oDiv, oMod, oPow, oSub, oEq, oNe, oIx, oAdd, oIsN, oIsB, oNotN, isN, o1U,
  bd_ok, bd_ex, bd_none, bd_ite, sb_nx, sb_rt, sb_bk, sb_ct, sb_xc, sb_none, sb_ite, eb_ok, eb_ex, eb_none, eb_ite, startW, fSl, fPart, fNoPart, fNew, fFld, fFldS, fFldA, fDefK, fSCount, cBool, iSigns, cIsiC, oEqO, mins, insOf, fMet, isO, fGet, fOwn, onlyO, fNeg, fOwnI, oRefl, oShl, cTuple, cList, lookup_lkS, lkS, Nat.reduceEqDiff, Nat.zero_ne_one, Nat.one_ne_zero, str_inj, String.reduceEq, List.isEmpty_nil, List.isEmpty_cons, putD, fRaise0, fRaiseO, fTryAs, fTryOnly, catch_nx, catch_rt, catch_bk, catch_ct, catch_xc, catch_none, catch_ite, allv_some, gone_nx, gone_rt, gone_bk, gone_ct, gone_ite, calm_nx, calm_rt, calm_bk, calm_ct, calm_ite, fXa, cIsX, truW, truth, eq_self, fFor, fFrz, frzW, turn, lt_nx, lt_ct, lt_bk, lt_rt, lt_xc, lt_none, lt_ite, lc, cutL, wipeW, inCutB, cutL, lcTurn, fLc, fYes, iFix, iFixL, iFixT, iR1, iR2, iR3, fixOf, fCallW, passI, passWs, passW, idx, noBb, backW, merge, List.getD_cons_zero, List.getD_cons_succ, Int.cast_ofNat_Int, Int.natCast_one, Int.natCast_zero, List.nodup_cons, List.nodup_nil, List.all_cons, List.all_nil, List.not_mem_nil, not_false_eq_true, and_true, true_and, List.mem_cons, or_false, false_or, gNm, gNl, gCs, gTp, Nat.not_lt_zero, rtW, newL, at_0, at_1, at_2, at_3, at_4, at_5, at_6, at_7, ixN_1_0, ixN_2_0, ixN_2_1, ixN_3_0, ixN_3_1, ixN_3_2, ixN_4_0, ixN_4_1, ixN_4_2, ixN_4_3, ixN_5_0, ixN_5_1, ixN_5_2, ixN_5_3, ixN_5_4, alls, allb, seqOf, lstOf, mlist, scal, tyN, tyW, kt_int_int, kt_int_bool, kt_int_str, kt_int_tuple, kt_int_list, kt_bool_int, kt_bool_bool, kt_bool_str, kt_bool_tuple, kt_bool_list, kt_str_int, kt_str_bool, kt_str_str, kt_str_tuple, kt_str_list, kt_tuple_int, kt_tuple_bool, kt_tuple_str, kt_tuple_tuple, kt_tuple_list, kt_list_int, kt_list_bool, kt_list_str, kt_list_tuple, kt_list_list, kt_NoneType_int, kt_NoneType_bool, kt_NoneType_str, kt_NoneType_tuple, kt_NoneType_list, item, dws,
  List.length_cons, List.length_nil, List.map_cons, List.map_nil, List.cons_append, List.nil_append, List.append_nil, List.getElem?_nil, List.getElem?_cons_zero, List.getElem?_cons_succ, List.set_cons_zero, List.set_cons_succ, List.replicate, Option.map_some, Nat.sub_self, Nat.reduceSub, Nat.reduceAdd, Nat.reduceLT, Nat.reduceLeDiff, decide_true, decide_false, if_true, if_false, ite_true, ite_false, Bool.false_eq_true, Bool.not_true, Bool.not_false, Bool.and_true, Bool.true_and, Bool.and_false, Bool.false_and, Bool.or_true, Bool.true_or, Bool.or_false, Bool.false_or, decide_eq_true_eq, Nat.zero_le, Nat.le_refl, Nat.lt_irrefl, List.take_succ_cons, List.take_zero, List.take_nil, V.int.injEq, V.bl.injEq, V.str.injEq, reduceCtorEq, smallB_le, r62_le, rgB_le, fLstR1, fLstR2, cSortI, isLst, rints_len, Int.toNat_natCast, beq_self_eq_true, Option.some.injEq])
local macro_rules | `(tactic| simp? [$ls,*]) => `(tactic| simp (maxSteps := 2000000) (disch := first | omega | assumption | (simp only [List.length_cons, List.length_nil, List.length_map]; omega)) only [iET, fCon, fStar, oShr, cNn_r, cMax2, fExt, cAll, cAny, cLB, cSum, cLI, iRevR1, fRun, fin_nx, fin_rt, fin_xc, fin_none, fin_ite, cMul_l, cMul_r, cDiv_r, cPos_r, cPow_r, Nat.not_lt_zero,  fSeq, fIf, fAsg, fAug, oRep, oRepT, fRet, fRetN, fNext, fVar, fC, fOp, fUn, fTest, fAnd, fOr, fNot, fAndV, fOrV, fNotV, fIfE, fNil, fCons, fTup, fLst, fCB, fDef, fDrop, fSet, fApp, fTru, fChain, asB, cLen, cInt, cAbs, cMin2, cIsi, oI, oI0, oMul, oDiv, oMod, oPow, oSub, oEq, oNe, oIx, oAdd, oIsN, oIsB, oNotN, isN, o1U,
  bd_ok, bd_ex, bd_none, bd_ite, sb_nx, sb_rt, sb_bk, sb_ct, sb_xc, sb_none, sb_ite, eb_ok, eb_ex, eb_none, eb_ite, startW, fSl, fPart, fNoPart, fNew, fFld, fFldS, fFldA, fDefK, fSCount, cBool, iSigns, cIsiC, oEqO, mins, insOf, fMet, isO, fGet, fOwn, onlyO, fNeg, fOwnI, oRefl, oShl, cTuple, cList, lookup_lkS, lkS, Nat.reduceEqDiff, Nat.zero_ne_one, Nat.one_ne_zero, str_inj, String.reduceEq, List.isEmpty_nil, List.isEmpty_cons, putD, fRaise0, fRaiseO, fTryAs, fTryOnly, catch_nx, catch_rt, catch_bk, catch_ct, catch_xc, catch_none, catch_ite, allv_some, gone_nx, gone_rt, gone_bk, gone_ct, gone_ite, calm_nx, calm_rt, calm_bk, calm_ct, calm_ite, fXa, cIsX, truW, truth, eq_self, fFor, fFrz, frzW, turn, lt_nx, lt_ct, lt_bk, lt_rt, lt_xc, lt_none, lt_ite, lc, cutL, wipeW, inCutB, cutL, lcTurn, fLc, fYes, iFix, iFixL, iFixT, iR1, iR2, iR3, fixOf, fCallW, passI, passWs, passW, idx, noBb, backW, merge, List.getD_cons_zero, List.getD_cons_succ, Int.cast_ofNat_Int, Int.natCast_one, Int.natCast_zero, List.nodup_cons, List.nodup_nil, List.all_cons, List.all_nil, List.not_mem_nil, not_false_eq_true, and_true, true_and, List.mem_cons, or_false, false_or, gNm, gNl, gCs, gTp, Nat.not_lt_zero, rtW, newL, at_0, at_1, at_2, at_3, at_4, at_5, at_6, at_7, ixN_1_0, ixN_2_0, ixN_2_1, ixN_3_0, ixN_3_1, ixN_3_2, ixN_4_0, ixN_4_1, ixN_4_2, ixN_4_3, ixN_5_0, ixN_5_1, ixN_5_2, ixN_5_3, ixN_5_4, alls, allb, seqOf, lstOf, mlist, scal, tyN, tyW, kt_int_int, kt_int_bool, kt_int_str, kt_int_tuple, kt_int_list, kt_bool_int, kt_bool_bool, kt_bool_str, kt_bool_tuple, kt_bool_list, kt_str_int, kt_str_bool, kt_str_str, kt_str_tuple, kt_str_list, kt_tuple_int, kt_tuple_bool, kt_tuple_str, kt_tuple_tuple, kt_tuple_list, kt_list_int, kt_list_bool, kt_list_str, kt_list_tuple, kt_list_list, kt_NoneType_int, kt_NoneType_bool, kt_NoneType_str, kt_NoneType_tuple, kt_NoneType_list, item, dws,
  List.length_cons, List.length_nil, List.map_cons, List.map_nil, List.cons_append, List.nil_append, List.append_nil, List.getElem?_nil, List.getElem?_cons_zero, List.getElem?_cons_succ, List.set_cons_zero, List.set_cons_succ, List.replicate, Option.map_some, Nat.sub_self, Nat.reduceSub, Nat.reduceAdd, Nat.reduceLT, Nat.reduceLeDiff, decide_true, decide_false, if_true, if_false, ite_true, ite_false, Bool.false_eq_true, Bool.not_true, Bool.not_false, Bool.and_true, Bool.true_and, Bool.and_false, Bool.false_and, Bool.or_true, Bool.true_or, Bool.or_false, Bool.false_or, decide_eq_true_eq, Nat.zero_le, Nat.le_refl, Nat.lt_irrefl, List.take_succ_cons, List.take_zero, List.take_nil, V.int.injEq, V.bl.injEq, V.str.injEq, reduceCtorEq, smallB_le, r62_le, rgB_le, fLstR1, fLstR2, cSortI, isLst, rints_len, Int.toNat_natCast, beq_self_eq_true, Option.some.injEq, $ls,*])
/-! ### the least tokens: the mathematics -/
def runL (b : Nat) : List Nat → Nat
  | [] => 0
  | x :: xs => if x = b then runL b xs + 1 else 0
theorem runL_le {b : Nat} : ∀ {xs : List Nat}, runL b xs ≤ xs.length
  | [] => Nat.le_refl _
  | x :: xs => by
    unfold runL
    split
    · have := runL_le (b := b) (xs := xs)
      simpa using this
    · exact Nat.zero_le _
theorem runL_cons {b : Nat} {xs : List Nat} : runL b (b :: xs) = runL b xs + 1 := by
  rw [runL, if_pos rfl]
section
variable (sz : Nat → Nat) (A M : Nat)
def dpE (b x : Nat) (xs : List Nat) (rest : List (Nat × Nat)) : Nat × Nat :=
  if 0 < min (runL b (x :: xs)) M ∧ (A + (rest.getD (min (runL b (x :: xs)) M - 1) (0, 0)).1 < sz x + (rest.getD 0 (0, 0)).1 ∨ (A + (rest.getD (min (runL b (x :: xs)) M - 1) (0, 0)).1 = sz x + (rest.getD 0 (0, 0)).1 ∧ 1 < min (runL b (x :: xs)) M)) then (A + (rest.getD (min (runL b (x :: xs)) M - 1) (0, 0)).1, min (runL b (x :: xs)) M) else (sz x + (rest.getD 0 (0, 0)).1, 0)
def dp : Nat → List Nat → List (Nat × Nat)
  | _, [] => []
  | b, x :: xs => dpE sz A M b x xs (dp x xs) :: dp x xs
def cst (b : Nat) (xs : List Nat) : Nat := ((dp sz A M b xs).getD 0 (0, 0)).1
end
section
variable {sz : Nat → Nat} {A M : Nat}
theorem dp_len : ∀ {b : Nat} {xs : List Nat}, (dp sz A M b xs).length = xs.length
  | _, [] => rfl
  | b, x :: xs => by rw [dp, List.length_cons, dp_len, List.length_cons]
theorem dp_drop : ∀ {k b : Nat} {xs : List Nat}, (dp sz A M b xs).drop k = dp sz A M ((b :: xs).getD k 0) (xs.drop k)
  | 0, b, xs => rfl
  | k + 1, b, [] => by
    rw [dp, List.drop_nil, List.drop_nil]
    rfl
  | k + 1, b, x :: xs => by
    rw [dp, List.drop_succ_cons, List.drop_succ_cons, dp_drop]
    rfl
theorem dp_at {k b : Nat} {xs : List Nat} : ((dp sz A M b xs).getD k (0, 0)).1 = cst sz A M ((b :: xs).getD k 0) (xs.drop k) := by
  unfold cst
  rw [← dp_drop, List.getD_eq_getElem?_getD, List.getD_eq_getElem?_getD, List.getElem?_drop, Nat.add_zero]
theorem run_at : ∀ {k b : Nat} {xs : List Nat}, k ≤ runL b xs → (b :: xs).getD k 0 = b
  | 0, b, xs, _ => rfl
  | k + 1, b, [], h => by simp [runL] at h
  | k + 1, b, x :: xs, h => by
    unfold runL at h
    split at h
    · rename_i e
      subst e
      show (x :: xs).getD k 0 = x
      exact run_at (by omega)
    · omega
theorem run_drop : ∀ {k b : Nat} {xs : List Nat}, k ≤ runL b xs → runL b (xs.drop k) = runL b xs - k
  | 0, b, xs, _ => rfl
  | k + 1, b, [], h => by simp [runL] at h
  | k + 1, b, x :: xs, h => by
    unfold runL at h
    split at h
    · rename_i e
      subst e
      rw [List.drop_succ_cons, run_drop (by omega), runL_cons]
      omega
    · omega
theorem cst_nil {b : Nat} : cst sz A M b [] = 0 := rfl
/-- what a place costs -/
theorem cst_cons {b x : Nat} {xs : List Nat} : cst sz A M b (x :: xs) = (dpE sz A M b x xs (dp sz A M x xs)).1 := rfl
theorem again_at {b : Nat} {xs : List Nat} {c : Nat} (h1 : 1 ≤ c) (h2 : c ≤ runL b (b :: xs)) : ((dp sz A M b xs).getD (c - 1) (0, 0)).1 = cst sz A M b ((b :: xs).drop c) := by
  rw [runL_cons] at h2
  rw [dp_at, run_at (by omega)]
  obtain ⟨d, rfl⟩ : ∃ d, c = d + 1 := ⟨c - 1, by omega⟩
  rfl
theorem cst_lit {b x : Nat} {xs : List Nat} : cst sz A M b (x :: xs) ≤ sz x + cst sz A M x xs := by
  rw [cst_cons]
  unfold dpE
  split
  · rename_i h
    obtain ⟨h1, h2 | h2⟩ := h
    · exact Nat.le_of_lt h2
    · exact Nat.le_of_eq h2.1
  · exact Nat.le_refl _
theorem run_pos {b x : Nat} {xs : List Nat} (h : 0 < runL b (x :: xs)) : x = b := by
  unfold runL at h
  split at h
  · assumption
  · omega
/-- a place costs what its step says -/
theorem cst_ways {b x : Nat} {xs : List Nat} : (cst sz A M b (x :: xs) = sz x + cst sz A M x xs ∧ (dpE sz A M b x xs (dp sz A M x xs)).2 = 0) ∨ (x = b ∧ 0 < min (runL b (x :: xs)) M ∧ cst sz A M b (x :: xs) = A + cst sz A M b ((x :: xs).drop (min (runL b (x :: xs)) M)) ∧ (dpE sz A M b x xs (dp sz A M x xs)).2 = min (runL b (x :: xs)) M ∧ (cst sz A M b (x :: xs) < sz x + cst sz A M x xs ∨ 1 < min (runL b (x :: xs)) M)) := by
  rw [cst_cons]
  unfold dpE
  split
  · rename_i h
    obtain ⟨h1, h2⟩ := h
    have e := run_pos (b := b) (x := x) (xs := xs) (by omega)
    subst e
    have a := again_at (sz := sz) (A := A) (M := M) (b := x) (xs := xs) (c := min (runL x (x :: xs)) M) h1 (Nat.min_le_left _ _)
    refine .inr ⟨rfl, h1, by rw [a], rfl, ?_⟩
    rcases h2 with h2 | h2
    · exact .inl h2
    · exact .inr h2.2
  · exact .inl ⟨rfl, rfl⟩
theorem cst_again {b : Nat} {xs : List Nat} (h1 : 1 ≤ min (runL b (b :: xs)) M) : cst sz A M b (b :: xs) ≤ A + cst sz A M b ((b :: xs).drop (min (runL b (b :: xs)) M)) := by
  have a := again_at (sz := sz) (A := A) (M := M) (b := b) (xs := xs) (c := min (runL b (b :: xs)) M) h1 (Nat.min_le_left _ _)
  rw [← a, cst_cons]
  unfold dpE
  split
  · exact Nat.le_refl _
  · rename_i h
    by_cases c : A + ((dp sz A M b xs).getD (min (runL b (b :: xs)) M - 1) (0, 0)).1 < sz b + ((dp sz A M b xs).getD 0 (0, 0)).1
    · exact absurd ⟨h1, .inl c⟩ h
    · show sz b + _ ≤ _
      omega
/-- within a run the rest gets no dearer -/
theorem cst_mono : ∀ {n b : Nat} {xs : List Nat}, xs.length ≤ n → (∀ {j : Nat}, j ≤ runL b xs → cst sz A M b (xs.drop j) ≤ cst sz A M b xs) := by
  intro n
  induction n with
  | zero =>
    intro b xs hn j hj
    have : xs = [] := List.eq_nil_of_length_eq_zero (by omega)
    subst this
    rw [List.drop_nil]
    exact Nat.le_refl _
  | succ n ih =>
    intro b xs hn j hj
    cases xs with
    | nil =>
      rw [List.drop_nil]
      exact Nat.le_refl _
    | cons x xs =>
      cases j with
      | zero => exact Nat.le_refl _
      | succ j =>
        have e := run_pos (b := b) (x := x) (xs := xs) (by omega)
        subst e
        rw [runL_cons] at hj
        have hn : xs.length ≤ n := by simpa using hn
        have step : cst sz A M x xs ≤ cst sz A M x (x :: xs) := by
          rcases cst_ways (sz := sz) (A := A) (M := M) (b := x) (x := x) (xs := xs) with ⟨h, _⟩ | ⟨_, h1, h, _, _⟩
          · omega
          · rw [h]
            obtain ⟨c, hc⟩ : ∃ c, min (runL x (x :: xs)) M = c + 1 := ⟨min (runL x (x :: xs)) M - 1, by omega⟩
            have hc2 : c + 1 ≤ runL x xs + 1 := by rw [← hc, runL_cons]; exact Nat.min_le_left _ _
            have hc3 : c + 1 ≤ M := by rw [← hc]; exact Nat.min_le_right _ _
            rw [hc, List.drop_succ_cons]
            cases xs with
            | nil =>
              rw [List.drop_nil, cst_nil]
              exact Nat.zero_le _
            | cons y ys =>
              by_cases c0 : c = 0
              · subst c0
                exact Nat.le_add_left _ _
              · have e2 := run_pos (b := x) (x := y) (xs := ys) (by omega)
                subst e2
                have h3 := cst_again (sz := sz) (A := A) (M := M) (b := y) (xs := ys) (by omega)
                have h4 := ih (b := y) (xs := (y :: ys).drop c) (by rw [List.length_drop]; omega) (j := min (runL y (y :: ys)) M - c) (by
                  rw [run_drop (by omega)]
                  omega)
                rw [List.drop_drop, show c + (min (runL y (y :: ys)) M - c) = min (runL y (y :: ys)) M by omega] at h4
                omega
        rw [List.drop_succ_cons]
        exact Nat.le_trans (ih hn (by omega)) step
end
/-! ### tokens -/
/-- tokens that stand for numbers -/
def Par (M : Nat) : Nat → List (Bool × Nat) → List Nat → Prop
  | _, [], xs => xs = []
  | _, (false, x) :: ts, xs => ∃ ys, xs = x :: ys ∧ Par M x ts ys
  | b, (true, k) :: ts, xs => 1 ≤ k ∧ k ≤ M ∧ k ≤ runL b xs ∧ Par M b ts (xs.drop k)
section
variable (sz : Nat → Nat) (A M : Nat)
def btN (ts : List (Bool × Nat)) : Nat := sumL (ts.map fun q => if q.1 = true then A else sz q.2)
end
section
variable {sz : Nat → Nat} {A M : Nat}
theorem btN_cons {q : Bool × Nat} {ts : List (Bool × Nat)} : btN sz A (q :: ts) = (if q.1 = true then A else sz q.2) + btN sz A ts := rfl
theorem run_lt {b k : Nat} {xs : List Nat} (h1 : 1 ≤ k) (h : k ≤ runL b xs) : ∃ ys, xs = b :: ys := by
  cases xs with
  | nil => simp [runL] at h; omega
  | cons x xs =>
    have := run_pos (b := b) (x := x) (xs := xs) (by omega)
    subst this
    exact ⟨xs, rfl⟩
/-- a repetition of k costs no less -/
theorem rep_ge {b k : Nat} {xs : List Nat} (h1 : 1 ≤ k) (h2 : k ≤ M) (h3 : k ≤ runL b xs) : cst sz A M b xs ≤ A + cst sz A M b (xs.drop (min (runL b xs) M)) ∧ cst sz A M b (xs.drop (min (runL b xs) M)) ≤ cst sz A M b (xs.drop k) := by
  obtain ⟨ys, rfl⟩ := run_lt h1 h3
  refine ⟨cst_again (by omega), ?_⟩
  have h4 := cst_mono (sz := sz) (A := A) (M := M) (n := ((b :: ys).drop k).length) (b := b) (xs := (b :: ys).drop k) (Nat.le_refl _) (j := min (runL b (b :: ys)) M - k) (by
    rw [run_drop h3]
    omega)
  rw [List.drop_drop, show k + (min (runL b (b :: ys)) M - k) = min (runL b (b :: ys)) M by omega] at h4
  exact h4
theorem par_ge : ∀ {ts : List (Bool × Nat)} {b : Nat} {xs : List Nat}, Par M b ts xs → cst sz A M b xs ≤ btN sz A ts
  | [], b, xs, h => by
    have : xs = [] := h
    subst this
    exact Nat.zero_le _
  | (false, x) :: ts, b, xs, h => by
    obtain ⟨ys, rfl, h⟩ := h
    have := par_ge h
    have l := cst_lit (sz := sz) (A := A) (M := M) (b := b) (x := x) (xs := ys)
    rw [btN_cons, if_neg (by simp)]
    show _ ≤ sz x + _
    omega
  | (true, k) :: ts, b, xs, h => by
    obtain ⟨h1, h2, h3, h⟩ := h
    have a := par_ge h
    obtain ⟨b1, b2⟩ := rep_ge (sz := sz) (A := A) (M := M) h1 h2 h3
    rw [btN_cons, if_pos rfl]
    omega
end
/-! ### ties -/
def cntT (q : Bool × Nat) : Nat := if q.1 = true then q.2 else 1
def Bet (t u : Bool × Nat) : Prop := cntT u < cntT t ∨ (cntT t = cntT u ∧ t.1 = false)
def Win : List (Bool × Nat) → List (Bool × Nat) → Prop
  | [], [] => True
  | t :: ts, u :: us => (t = u ∧ Win ts us) ∨ (t ≠ u ∧ Bet t u)
  | _, _ => False
section
variable (sz : Nat → Nat) (A M : Nat)
def tk : Nat → Nat → List Nat → List (Bool × Nat)
  | 0, _, _ => []
  | _ + 1, _, [] => []
  | f + 1, b, x :: xs => if 0 < (dpE sz A M b x xs (dp sz A M x xs)).2 then (true, (dpE sz A M b x xs (dp sz A M x xs)).2) :: tk f b ((x :: xs).drop (dpE sz A M b x xs (dp sz A M x xs)).2) else (false, x) :: tk f x xs
end
section
variable {sz : Nat → Nat} {A M : Nat}
theorem lit_strict {b x : Nat} {xs : List Nat} (h : (dpE sz A M b x xs (dp sz A M x xs)).2 = 0) (h1 : 1 < min (runL b (x :: xs)) M) : sz x + cst sz A M x xs < A + cst sz A M b ((x :: xs).drop (min (runL b (x :: xs)) M)) := by
  have e := run_pos (b := b) (x := x) (xs := xs) (by omega)
  subst e
  have a := again_at (sz := sz) (A := A) (M := M) (b := x) (xs := xs) (c := min (runL x (x :: xs)) M) (by omega) (Nat.min_le_left _ _)
  rw [← a]
  unfold dpE at h
  split at h
  · have : min (runL x (x :: xs)) M = 0 := h
    omega
  · rename_i h2
    by_cases c : A + ((dp sz A M x xs).getD (min (runL x (x :: xs)) M - 1) (0, 0)).1 ≤ sz x + cst sz A M x xs
    · refine absurd ⟨by omega, ?_⟩ h2
      rcases Nat.lt_or_eq_of_le c with c | c
      · exact .inl c
      · exact .inr ⟨c, h1⟩
    · omega
theorem win_all : ∀ {f : Nat} {b : Nat} {xs : List Nat} {ts : List (Bool × Nat)}, xs.length ≤ f → Par M b ts xs → btN sz A ts = cst sz A M b xs → Win (tk sz A M f b xs) ts := by
  intro f
  induction f with
  | zero =>
    intro b xs ts hf hp hb
    have : xs = [] := List.eq_nil_of_length_eq_zero (by omega)
    subst this
    match ts, hp with
    | [], _ => trivial
    | (false, x) :: ts, hp => obtain ⟨ys, e, _⟩ := hp; cases e
    | (true, k) :: ts, hp => obtain ⟨h1, _, h3, _⟩ := hp; simp [runL] at h3; omega
  | succ f ih =>
    intro b xs ts hf hp hb
    cases xs with
    | nil =>
      match ts, hp with
      | [], _ => trivial
      | (false, x) :: ts, hp => obtain ⟨ys, e, _⟩ := hp; cases e
      | (true, k) :: ts, hp => obtain ⟨h1, _, h3, _⟩ := hp; simp [runL] at h3; omega
    | cons x xs =>
      have hf : xs.length ≤ f := by simpa using hf
      match ts, hp, hb with
      | [], hp, _ =>
        have : x :: xs = [] := hp
        cases this
      | u :: us, hp, hb =>
        rcases cst_ways (sz := sz) (A := A) (M := M) (b := b) (x := x) (xs := xs) with ⟨h, hs⟩ | ⟨e, h1, h, hs, hc⟩
        · rw [tk, if_neg (by omega)]
          match u, hp, hb with
          | (false, y), hp, hb =>
            obtain ⟨ys, e, hp⟩ := hp
            cases e
            rw [btN_cons, if_neg (by simp), h] at hb
            have hb : sz x + btN sz A us = sz x + cst sz A M x xs := hb
            exact .inl ⟨rfl, ih hf hp (by omega)⟩
          | (true, k), hp, hb =>
            obtain ⟨k1, k2, k3, hp⟩ := hp
            refine .inr ⟨by simp, ?_⟩
            by_cases c : k = 1
            · exact .inr ⟨by rw [c]; rfl, rfl⟩
            · exfalso
              have a1 := lit_strict hs (by omega)
              obtain ⟨_, a2⟩ := rep_ge (sz := sz) (A := A) (M := M) k1 k2 k3
              have a3 := par_ge (sz := sz) (A := A) hp
              rw [btN_cons, if_pos rfl, h] at hb
              omega
        · subst e
          rw [tk, if_pos (by omega), hs]
          match u, hp, hb with
          | (false, y), hp, hb =>
            obtain ⟨ys, e, hp⟩ := hp
            cases e
            refine .inr ⟨by simp, ?_⟩
            have a3 := par_ge (sz := sz) (A := A) hp
            rw [btN_cons, if_neg (by simp)] at hb
            have hb : sz x + btN sz A us = _ := hb
            refine .inl ?_
            show 1 < min (runL x (x :: xs)) M
            omega
          | (true, k), hp, hb =>
            obtain ⟨k1, k2, k3, hp⟩ := hp
            by_cases c : k = min (runL x (x :: xs)) M
            · subst c
              rw [btN_cons, if_pos rfl, h] at hb
              exact .inl ⟨rfl, ih (by rw [List.length_drop, List.length_cons]; omega) hp (by omega)⟩
            · refine .inr ⟨fun e => c (by cases e; rfl), .inl ?_⟩
              show k < min (runL x (x :: xs)) M
              omega
end
theorem win_ways : ∀ {ts us : List (Bool × Nat)}, Win ts us → ts = us ∨ ∃ (k : Nat) (t u : Bool × Nat), ts[k]? = some t ∧ us[k]? = some u ∧ t ≠ u ∧ Bet t u ∧ ∀ j, j < k → ts[j]? = us[j]?
  | [], [], _ => .inl rfl
  | [], _ :: _, h => h.elim
  | _ :: _, [], h => h.elim
  | t :: ts, u :: us, h => by
    rcases h with ⟨rfl, h⟩ | ⟨h1, h2⟩
    · rcases win_ways h with rfl | ⟨k, t', u', a1, a2, a3, a4, a5⟩
      · exact .inl rfl
      · refine .inr ⟨k + 1, t', u', a1, a2, a3, a4, fun j hj => ?_⟩
        cases j with
        | zero => rfl
        | succ j => exact a5 j (by omega)
    · exact .inr ⟨0, t, u, rfl, rfl, h1, h2, fun j hj => by omega⟩
/-! ### the walk -/
def wkF (S row : List Nat) (q : Nat × List (Bool × Nat)) : Nat × List (Bool × Nat) := if q.1 < row.length then (if 0 < S.getD q.1 0 then (q.1 + S.getD q.1 0, q.2 ++ [(true, S.getD q.1 0)]) else (q.1 + 1, q.2 ++ [(false, row.getD q.1 0)])) else q
def wkI (S row : List Nat) : Nat → Nat × List (Bool × Nat)
  | 0 => (0, [])
  | t + 1 => wkF S row (wkI S row t)
section
variable {sz : Nat → Nat} {A M : Nat}
theorem step_at {p x : Nat} {row xs : List Nat} (h : row.drop p = x :: xs) : (((dp sz A M 0 row).map (·.2)).getD p 0) = (dpE sz A M ((0 :: row).getD p 0) x xs (dp sz A M x xs)).2 := by
  have e := dp_drop (sz := sz) (A := A) (M := M) (k := p) (b := 0) (xs := row)
  rw [h, dp] at e
  have e2 : (dp sz A M 0 row)[p]? = some (dpE sz A M ((0 :: row).getD p 0) x xs (dp sz A M x xs)) := by
    have := congrArg (fun l => l[0]?) e
    simpa [List.getElem?_drop] using this
  rw [List.getD_eq_getElem?_getD, List.getElem?_map, e2]
  rfl
theorem bef_add {p s : Nat} {row : List Nat} (h : s ≤ runL ((0 :: row).getD p 0) (row.drop p)) (hp : p ≤ row.length) : (0 :: row).getD (p + s) 0 = (0 :: row).getD p 0 := by
  have a := run_at h
  have e : (0 :: row).drop p = (0 :: row).getD p 0 :: row.drop p := by
    rw [List.drop_eq_getElem_cons (by simp; omega), List.drop_succ_cons, List.getD_eq_getElem?_getD, List.getElem?_eq_getElem (by simp; omega)]
    rfl
  rw [← e, List.getD_eq_getElem?_getD, List.getElem?_drop, ← List.getD_eq_getElem?_getD] at a
  exact a
theorem bef_next {p x : Nat} {row xs : List Nat} (h : row.drop p = x :: xs) : (0 :: row).getD (p + 1) 0 = x := by
  have := congrArg (fun l => l[0]?) h
  simp only [List.getElem?_drop, Nat.add_zero, List.getElem?_cons_zero] at this
  rw [List.getD_eq_getElem?_getD, List.getElem?_cons_succ, this]
  rfl
/-- the walk tells the tokens -/
theorem walk_tk {row : List Nat} : ∀ {f p : Nat} {acc : List (Bool × Nat)}, p ≤ row.length → (List.range f).foldl (fun q _ => wkF ((dp sz A M 0 row).map (·.2)) row q) (p, acc) = (((List.range f).foldl (fun q _ => wkF ((dp sz A M 0 row).map (·.2)) row q) (p, acc)).1, acc ++ tk sz A M f ((0 :: row).getD p 0) (row.drop p)) ∧ (row.length ≤ p + f → row.length ≤ ((List.range f).foldl (fun q _ => wkF ((dp sz A M 0 row).map (·.2)) row q) (p, acc)).1)
  | 0, p, acc, hp => ⟨by simp [tk], fun h => h⟩
  | f + 1, p, acc, hp => by
    rw [List.range_succ_eq_map, List.foldl_cons, List.foldl_map]
    by_cases c : p < row.length
    · have hd : row.drop p = row[p] :: row.drop (p + 1) := List.drop_eq_getElem_cons c
      have st := step_at (sz := sz) (A := A) (M := M) hd
      have e2 : row.getD p 0 = row[p] := getD_eq c
      unfold wkF
      dsimp only
      rw [if_pos c, hd, tk, st]
      by_cases z : 0 < (dpE sz A M ((0 :: row).getD p 0) row[p] (row.drop (p + 1)) (dp sz A M row[p] (row.drop (p + 1)))).2
      · rw [if_pos z, if_pos z]
        rcases cst_ways (sz := sz) (A := A) (M := M) (b := (0 :: row).getD p 0) (x := row[p]) (xs := row.drop (p + 1)) with ⟨_, h2⟩ | ⟨e, h1, h, hs, hc⟩
        · omega
        · rw [hs]
          have hr : min (runL ((0 :: row).getD p 0) (row[p] :: row.drop (p + 1))) M ≤ runL ((0 :: row).getD p 0) (row.drop p) := by
            rw [hd]
            exact Nat.min_le_left _ _
          have hl := runL_le (b := (0 :: row).getD p 0) (xs := row.drop p)
          rw [List.length_drop] at hl
          have b := bef_add hr hp
          obtain ⟨i1, i2⟩ := walk_tk (row := row) (f := f) (p := p + min (runL ((0 :: row).getD p 0) (row[p] :: row.drop (p + 1))) M) (acc := acc ++ [(true, min (runL ((0 :: row).getD p 0) (row[p] :: row.drop (p + 1))) M)]) (by omega)
          rw [b] at i1
          refine ⟨?_, fun h => i2 (by omega)⟩
          unfold wkF at i1
          rw [i1]
          dsimp only
          rw [List.append_assoc, ← hd, List.drop_drop]
          rfl
      · rw [if_neg z, if_neg z]
        obtain ⟨i1, i2⟩ := walk_tk (row := row) (f := f) (p := p + 1) (acc := acc ++ [(false, row.getD p 0)]) (by omega)
        rw [bef_next hd] at i1
        refine ⟨?_, fun h => i2 (by omega)⟩
        unfold wkF at i1
        rw [i1]
        dsimp only
        rw [List.append_assoc, e2]
        rfl
    · have hp2 : p = row.length := by omega
      subst hp2
      have hz : wkF ((dp sz A M 0 row).map (·.2)) row (row.length, acc) = (row.length, acc) := by
        unfold wkF
        rw [if_neg (Nat.lt_irrefl _)]
      rw [hz]
      obtain ⟨i1, i2⟩ := walk_tk (row := row) (f := f) (p := row.length) (acc := acc) (Nat.le_refl _)
      refine ⟨?_, fun _ => i2 (by omega)⟩
      rw [i1, List.drop_length]
      cases f with
      | zero => rfl
      | succ f => rfl
end
/-! ### prices -/
theorem sz_ex (rungs : List (Nat × Nat)) (x : Nat) : ∃ s : Nat, ∀ i (hi : i < rungs.length), sS rungs i ≤ x → x < sS rungs (i + 1) → s = rungs[i].1 + rungs[i].2 := by
  by_cases h : ∃ i, i < rungs.length ∧ sS rungs i ≤ x ∧ x < sS rungs (i + 1)
  · obtain ⟨i, hi, a, b⟩ := h
    refine ⟨rungs[i].1 + rungs[i].2, fun j hj c d => ?_⟩
    have : i = j := by
      rcases Nat.lt_trichotomy i j with q | q | q
      · have := sS_mono (rungs := rungs) (show i + 1 ≤ j by omega)
        omega
      · exact q
      · have := sS_mono (rungs := rungs) (show j + 1 ≤ i by omega)
        omega
    subst this
    rfl
  · exact ⟨0, fun i hi a b => absurd ⟨i, hi, a, b⟩ h⟩
noncomputable def szN (rungs : List (Nat × Nat)) (x : Nat) : Nat := Classical.choose (sz_ex rungs x)
theorem szN_eq {rungs : List (Nat × Nat)} {x i : Nat} (hi : i < rungs.length) (h1 : sS rungs i ≤ x) (h2 : x < sS rungs (i + 1)) : szN rungs x = rungs[i].1 + rungs[i].2 := Classical.choose_spec (sz_ex rungs x) i hi h1 h2
def apN (r : Option (Nat × Nat)) : Nat := match r with
  | none => 0
  | some q => q.1 + q.2
def mrN (r : Option (Nat × Nat)) : Nat := match r with
  | none => 0
  | some q => 2 ^ q.2
section
variable {rungs : List (Nat × Nat)} {r : Option (Nat × Nat)}
theorem L_size_eq (T : Tb rungs r) {x : Nat} (hx : x < sS rungs rungs.length) : F_L_size [.d (.tup (rungs.map prD)), wi (x : Nat)] [] = some (.ok (wi (szN rungs x : Nat)) []) := by
  obtain ⟨i, hi, h1, h2⟩ := ex_rung hx
  rw [szN_eq hi h1 h2]
  unfold F_L_size B_L_size B_L_size_1 B_L_size_2 B_L_size_3
  simp? [prD_items]
  rw [loop_foldI (fun t : Nat => ([some (.d (.tup (rungs.map prD))), some (wi (x : Nat)), some (wi (sS rungs t : Nat)), some (wi ((if i < t then rungs[i].1 + rungs[i].2 else 0 : Nat) : Int)), none, none], [])) (fun q : Nat × Nat => W.d (prD q)) (fun t _ => t + 1) (fun t a => a = t) (0 : Nat) ?_ rfl ?_]
  · have e : rungs.foldl (fun i _ => i + 1) 0 = rungs.length := by
      have key : ∀ (l : List (Nat × Nat)) (n : Nat), l.foldl (fun i _ => i + 1) n = n + l.length := by
        intro l
        induction l with
        | nil => intro n; rfl
        | cons a l ih => intro n; rw [List.foldl_cons, ih, List.length_cons]; omega
      rw [key, Nat.zero_add]
    rw [e, if_pos hi]
    rfl
  · rfl
  · rintro t a ⟨l, w⟩ hq rfl
    refine ⟨rfl, fun k => ?_⟩
    have ha := (List.getElem?_eq_some_iff.mp hq).1
    have eq := (List.getElem?_eq_some_iff.mp hq).2
    have hw := T.wd (l, w) (List.mem_of_getElem? hq)
    have hs := sS_succ hq
    have e1 := shl_add (s := sS rungs a) (k := w)
    rw [show sS rungs a + 2 ^ w = sS rungs (a + 1) from hs.symm] at e1
    dsimp only at hw
    generalize hS' : sS rungs (a + 1) = S' at e1 ⊢
    generalize hS : sS rungs a = S at e1 ⊢
    have e0 : rungs.map prD = rungs.map prD := rfl
    generalize hP : rungs.map prD = P
    have e3 : ((l : Nat) : Int) + (w : Nat) = ((l + w : Nat) : Int) := by omega
    rcases Nat.lt_trichotomy i a with c | c | c
    · have := sS_mono (rungs := rungs) (show i + 1 ≤ a by omega)
      have c2 : ¬ ((S : Nat) : Int) ≤ (x : Nat) := by omega
      rw [if_pos c, if_pos (by omega)]
      generalize rungs[i].1 + rungs[i].2 = z
      unfold prD
      simp? [e1, c2, Int.toNat_natCast]
    · subst c
      rw [if_neg (Nat.lt_irrefl _), if_pos (Nat.lt_succ_self _), eq]
      have c2 : ((S : Nat) : Int) ≤ (x : Nat) := by omega
      have c3 : ((x : Nat) : Int) < (S' : Nat) := by omega
      unfold prD
      simp? [e1, c2, c3, e3, Int.toNat_natCast]
    · have := sS_mono (rungs := rungs) (show a + 1 ≤ i by omega)
      have c3 : ¬ ((x : Nat) : Int) < (S' : Nat) := by omega
      rw [if_neg (by omega), if_neg (by omega)]
      unfold prD
      by_cases c2 : ((S : Nat) : Int) ≤ (x : Nat)
      · simp? [e1, c2, c3, Int.toNat_natCast]
      · simp? [e1, c2, Int.toNat_natCast]
theorem literal_price_eq {K : PySem.W.Frag} (T : Tb rungs r) {x : Nat} (hx : x < sS rungs rungs.length) : F_Table_literal_price K [.d (tbO K rungs r), wi (x : Nat)] [] = some (.ok (wi (szN rungs x : Nat)) []) := by
  obtain ⟨i, hi, h1, h2⟩ := ex_rung hx
  rw [szN_eq hi h1 h2]
  have e0 := rung_of_in (K := K) T hi h1 h2
  have e4 : atI (rungs.map prD) (i : Int) = some (.tup [.int (rungs[i].1 : Nat), .int (rungs[i].2 : Nat)]) := at_get (by rw [List.getElem?_map, List.getElem?_eq_getElem hi]; rfl)
  have e3 : ((rungs[i].1 : Nat) : Int) + (rungs[i].2 : Nat) = ((rungs[i].1 + rungs[i].2 : Nat) : Int) := by omega
  unfold F_Table_literal_price B_Table_literal_price
  unfold tbO tbF at e0 ⊢
  simp? [e0, e4, e3, pcall, Option.isNone_none]
theorem repetition_price_eq {K : PySem.W.Frag} : F_Table_repetition_price K [.d (tbO K rungs r)] [] = some (.ok (wi (apN r : Nat)) []) := by
  unfold F_Table_repetition_price B_Table_repetition_price
  unfold tbO tbF
  cases r with
  | none =>
    unfold repD
    simp? [eq_self]
    rfl
  | some q =>
    have e3 : ((q.1 : Nat) : Int) + (q.2 : Nat) = ((apN (some q) : Nat) : Int) := by
      show _ = ((q.1 + q.2 : Nat) : Int)
      omega
    unfold repD prD
    simp? [e3]
theorem most_repeated_eq {K : PySem.W.Frag} (T : Tb rungs r) : F_Table_most_repeated K [.d (tbO K rungs r)] [] = some (.ok (wi (mrN r : Nat)) []) := by
  unfold F_Table_most_repeated B_Table_most_repeated
  unfold tbO tbF
  cases r with
  | none =>
    unfold repD
    simp? [eq_self]
    rfl
  | some q =>
    have hw := T.rw q rfl
    have e8 := shl_one (k := q.2)
    rw [show 2 ^ q.2 = mrN (some q) from rfl] at e8
    unfold repD prD
    generalize mrN (some q) = P at e8 ⊢
    simp? [e8, Int.toNat_natCast]
theorem number_before_eq {row : List Nat} {p : Nat} (hp : p ≤ row.length) : F_number_before [.d (.lst (natD row)), wi (p : Nat)] [] = some (.ok (wi ((0 :: row).getD p 0 : Nat)) []) := by
  unfold F_number_before B_number_before
  cases p with
  | zero =>
    simp? [eq_self]
    rfl
  | succ p =>
    have c : (0 : Int) < ((p + 1 : Nat) : Int) := by omega
    have e : ((p + 1 : Nat) : Int) - 1 = ((p : Nat) : Int) := by omega
    have e2 := natD_getD (l := row) (i := p) (by omega)
    rw [show (0 :: row).getD (p + 1) 0 = row.getD p 0 from rfl]
    generalize row.getD p 0 = z at e2 ⊢
    generalize natD row = L at e2 ⊢
    generalize ((p + 1 : Nat) : Int) = y at c e ⊢
    simp? [c, e, e2]
/-- how the law counts a run -/
theorem run_loop {g : FG} {B : FSt} {dead : List Nat} {n : Nat} {st : Nat → Rho × Mu} {b : Nat} {ρe : Nat → Nat → Rho} : ∀ {xs : List Nat} {j : Nat}, (∀ (j x : Nat) (k : Rho → Mu → Option So), turn g B dead n (wi (x : Nat)) (st j).1 (st j).2 k = if x = b then k (st (j + 1)).1 (st (j + 1)).2 else some (.nx (ρe j x) (st j).2)) → ∃ ρ', (ρ' = (st (j + runL b xs)).1 ∨ ∃ x, ρ' = ρe (j + runL b xs) x) ∧ fLoop g B dead n (xs.map fun x : Nat => wi (x : Nat)) (st j).1 (st j).2 = some (.nx ρ' (st (j + runL b xs)).2)
  | [], j, h => ⟨_, .inl rfl, rfl⟩
  | x :: xs, j, h => by
    rw [List.map_cons, fLoop, h]
    by_cases c : x = b
    · rw [if_pos c]
      obtain ⟨ρ', h1, h2⟩ := run_loop (xs := xs) (j := j + 1) h
      rw [runL, if_pos c, show j + (runL b xs + 1) = j + 1 + runL b xs by omega]
      exact ⟨ρ', h1, h2⟩
    · rw [if_neg c, runL, if_neg c]
      exact ⟨_, .inr ⟨x, rfl⟩, rfl⟩
theorem L_longest_eq (T : Tb rungs r) {row : List Nat} {p : Nat} (hp : p < row.length) (hn : row.length ≤ 1000) : F_L_longest [.d (.lst (natD row)), wi (p : Nat), .d (repD r)] [] = some (.ok (wi (min (runL ((0 :: row).getD p 0) (row.drop p)) (mrN r) : Nat)) []) := by
  unfold F_L_longest fRun
  rw [if_pos (show [W.d (.lst (natD row)), wi (p : Nat), W.d (repD r)].length = 3 from rfl)]
  show fin false 0 (B_L_longest [some (.d (.lst (natD row))), some (wi (p : Nat)), some (.d (repD r)), none, none, none] []) = _
  cases r with
  | none =>
    unfold B_L_longest repD mrN
    dsimp only
    rw [Nat.min_zero]
    simp? [eq_self]
  | some q =>
    have hw := T.rw q rfl
    have e8 := shl_one (k := q.2)
    have e1 : atI (D.v (V.int 0) :: natD row) (p : Int) = some (D.int (((0 :: row).getD p 0 : Nat) : Int)) := natD_getD (l := 0 :: row) (i := p) (by simp; omega)
    have hl := runL_le (b := (0 :: row).getD p 0) (xs := row.drop p)
    rw [List.length_drop] at hl
    have e2 : cutD (natD row) (some ((p : Nat) : Int)) none = natD (row.drop p) := natD_from (by omega)
    have l1 : (natD row).length ≤ 1000 := by rw [natD_len]; exact hn
    have l2 : (natD (row.drop p)).map (item false) = (row.drop p).map fun x : Nat => wi (x : Nat) := natD_items
    unfold mrN
    dsimp only
    rw [show 2 ^ q.2 = mrN (some q) from rfl] at e8 ⊢
    have hP : mrN (some q) ≤ 32 := by
      have := Nat.pow_le_pow_right (n := 2) (by decide) hw
      show 2 ^ q.2 ≤ 32
      omega
    generalize mrN (some q) = P at e8 hP ⊢
    generalize hb : (0 :: row).getD p 0 = b at e1 hl ⊢
    have key : B_L_longest [some (.d (.lst (natD row))), some (wi (p : Nat)), some (.d (repD (some q))), none, none, none] [] = some (.rt (wi (min (runL b (row.drop p)) P : Nat)) []) := by
      unfold B_L_longest
      refine (fseq_nx (ρ' := [some (.d (.lst (natD row))), some (wi (p : Nat)), some (.d (repD (some q))), none, none, none]) (μ' := []) ?h1).trans ?n1
      case h1 =>
        unfold repD prD
        simp? [eq_self]
      unfold B_L_longest_1
      refine (fseq_nx (ρ' := [some (.d (.lst (natD row))), some (wi (p : Nat)), some (.d (repD (some q))), some (wi (b : Nat)), none, none]) (μ' := []) ?h2).trans ?n2
      case h2 =>
        generalize repD (some q) = R
        generalize natD row = L at e1 l1 ⊢
        simp? [e1]
      unfold B_L_longest_2
      refine (fseq_nx (ρ' := [some (.d (.lst (natD row))), some (wi (p : Nat)), some (.d (repD (some q))), some (wi (b : Nat)), some (wi 0), none]) (μ' := []) ?h3).trans ?n3
      case h3 => simp? [eq_self]
      unfold B_L_longest_3
      obtain ⟨ρ', a1, a2⟩ := run_loop (g := gNm 5) (B := (fSeq (fIf (fTest (fOp oNe (fVar 5) (fVar 3))) fBreak fNext) (fAsg (fOp (oAdd false) (fVar 4) (fC (.int 1))) (gNm 4)))) (dead := [5]) (n := 0) (st := fun j => ([some (.d (.lst (natD row))), some (wi (p : Nat)), some (.d (repD (some q))), some (wi (b : Nat)), some (wi (j : Nat)), none], [])) (b := b) (ρe := fun j x => [some (.d (.lst (natD row))), some (wi (p : Nat)), some (.d (repD (some q))), some (wi (b : Nat)), some (wi (j : Nat)), some (wi (x : Nat))]) (xs := row.drop p) (j := 0) (fun j x k => by
        by_cases c : x = b
        · have c' : (((x : Nat) : Int) = ((b : Nat) : Int)) = True := eq_true (by omega)
          have e : ((j : Nat) : Int) + 1 = ((j + 1 : Nat) : Int) := by omega
          rw [if_pos c]
          generalize repD (some q) = R
          simp? [c', e]
        · have c' : (((x : Nat) : Int) = ((b : Nat) : Int)) = False := eq_false (by omega)
          rw [if_neg c]
          generalize repD (some q) = R
          simp? [c', fBreak])
      rw [Nat.zero_add] at a1 a2
      refine (fseq_nx (ρ' := ρ') (μ' := []) ?h4).trans ?n4
      case h4 =>
        refine Eq.trans ?_ a2
        generalize repD (some q) = R
        simp? [e2, l2]
      have fin4 : ∀ {a5 : Option W}, B_L_longest_4 [some (.d (.lst (natD row))), some (wi (p : Nat)), some (.d (repD (some q))), some (wi (b : Nat)), some (wi (runL b (row.drop p) : Nat)), a5] [] = some (.rt (wi (min (runL b (row.drop p)) P : Nat)) []) := by
        intro a5
        unfold B_L_longest_4 repD prD
        generalize runL b (row.drop p) = R
        by_cases c : P < R
        · have c' : ((P : Nat) : Int) < (R : Nat) := by omega
          rw [Nat.min_eq_right (by omega)]
          simp? [e8, c', Int.toNat_natCast]
        · have c' : ¬ ((P : Nat) : Int) < (R : Nat) := by omega
          rw [Nat.min_eq_left (by omega)]
          simp? [e8, c', Int.toNat_natCast]
      rcases a1 with rfl | ⟨x, rfl⟩
      · exact fin4
      · exact fin4
    rw [key]
    rfl
theorem L_total_eq (T : Tb rungs r) : F_L_total [.d (.tup (rungs.map prD))] [] = some (.ok (wi (sS rungs rungs.length : Nat)) []) := by
  have n2 := T.n2
  unfold F_L_total B_L_total
  simp? [prD_items, List.length_map]
  rw [lcs_mapw (fun q : Nat × Nat => W.d (prD q)) (fun q : Nat × Nat => D.int ((2 ^ q.2 : Nat) : Int))]
  · have e : (rungs.map fun q : Nat × Nat => D.int ((2 ^ q.2 : Nat) : Int)) = natD (rungs.map fun q => 2 ^ q.2) := by
      unfold natD
      rw [List.map_map]
      rfl
    have e2 : sumL (rungs.map fun q => 2 ^ q.2) = sS rungs rungs.length := by
      unfold sS
      rw [List.take_length]
    rw [e]
    simp? [intsOf_nat, sum_nat, e2]
  · rintro ⟨l, w⟩ hq
    have hw := T.wd _ hq
    dsimp only at hw
    have e8 := shl_one (k := w)
    unfold prD
    dsimp only
    generalize 2 ^ w = P at e8 ⊢
    simp? [e8, Int.toNat_natCast]
end
theorem L_coding_table_eq {s : DS} : ∃ (s' : DS) (rungs : List (Nat × Nat)) (r : Option (Nat × Nat)), Tb rungs r ∧ F_L_coding_table [.m 0] [.lst s.l] = some (.ok (.d (partD rungs r)) [.lst s'.l]) := by
  have x1 := F_L_draw_eq (s := s) (m := 3) (by omega) (by omega)
  generalize drawS s 3 = s1 at x1
  by_cases c : drawV s 3 = 0
  · rw [c] at x1
    have d2 := drawV_lt (s := s1) (m := 17) (by omega)
    have x2 := F_L_draw_eq (s := s1) (m := 17) (by omega) (by omega)
    generalize drawS s1 17 = s2 at x2
    obtain ⟨f, hf⟩ := Int.eq_ofNat_of_zero_le d2.1
    rw [hf] at x2 d2
    have x3 := F_L_draw_eq (s := s2) (m := 2) (by omega) (by omega)
    generalize drawS s2 2 = s3 at x3
    obtain ⟨a1, a2⟩ := modV_in (s := s3)
    have x4 := F_L_modulus_eq (s := s3)
    generalize modS s3 = s4 at x4
    obtain ⟨m, hm⟩ := Int.eq_ofNat_of_zero_le (show 0 ≤ modV s3 by omega)
    rw [hm] at x4 a1 a2
    refine ⟨s4, ldR (decide (drawV s2 2 = 1)) f m, ldP (decide (drawV s2 2 = 1)) f m, ld_tb (by omega) (by omega), ?_⟩
    have l0 := L_ladder_eq (f := f) (m := m) (again := decide (drawV s2 2 = 1)) (by omega) (by omega) (by omega)
    generalize drawV s2 2 = v at x3 l0 ⊢
    generalize partD (ldR (decide (v = 1)) f m) (ldP (decide (v = 1)) f m) = pd at l0 ⊢
    unfold F_L_coding_table B_L_coding_table
    simp? [x1, x2, x3, x4, l0]
  · have c' : (drawV s 3 = 0) = False := eq_false c
    obtain ⟨s', rungs, r, T, e⟩ := any_table_eq (s := s1)
    refine ⟨s', rungs, r, T, ?_⟩
    generalize drawV s 3 = v at x1 c'
    generalize partD rungs r = pd at e ⊢
    unfold F_L_coding_table B_L_coding_table
    simp? [x1, c', e]
/-! ### arrays -/
section
variable (sz : Nat → Nat) (A M : Nat) (row : List Nat)
def bfN (p : Nat) : Nat := (0 :: row).getD p 0
def prA (p : Nat) : List Nat := List.replicate p 0 ++ ((dp sz A M (bfN row p) (row.drop p)).map (·.1) ++ [0])
def rpA (p : Nat) : List Nat := List.replicate p 0 ++ (dp sz A M (bfN row p) (row.drop p)).map (·.2)
end
theorem set_rep {p v : Nat} {T : List Nat} : (List.replicate (p + 1) 0 ++ T).set p v = List.replicate p 0 ++ v :: T := by
  rw [List.replicate_succ', List.append_assoc, List.set_append_right _ _ (by simp), List.length_replicate, Nat.sub_self]
  rfl
theorem getD_rep {p j : Nat} {T : List Nat} : (List.replicate p 0 ++ T).getD (p + j) 0 = T.getD j 0 := by
  rw [List.getD_eq_getElem?_getD, List.getElem?_append_right (by simp), List.length_replicate, Nat.add_sub_cancel_left, ← List.getD_eq_getElem?_getD]
section
variable {sz : Nat → Nat} {A M : Nat} {row : List Nat}
theorem costs_getD {b : Nat} {xs : List Nat} {j : Nat} : ((dp sz A M b xs).map (fun z : Nat × Nat => z.1) ++ [0]).getD j 0 = ((dp sz A M b xs).getD j (0, 0)).1 := by
  rw [List.getD_eq_getElem?_getD, List.getD_eq_getElem?_getD]
  by_cases h : j < (dp sz A M b xs).length
  · rw [List.getElem?_append_left (by rw [List.length_map]; exact h), List.getElem?_map, List.getElem?_eq_getElem h]
    rfl
  · rw [List.getElem?_append_right (by rw [List.length_map]; omega), List.getElem?_eq_none (l := dp sz A M b xs) (by omega), List.length_map]
    cases j - (dp sz A M b xs).length <;> rfl
theorem bef_nx {p x : Nat} {xs : List Nat} (h : row.drop p = x :: xs) : bfN row (p + 1) = x := bef_next h
theorem drop_nx {p x : Nat} {xs : List Nat} (h : row.drop p = x :: xs) : row.drop (p + 1) = xs := by
  rw [← List.drop_drop, h]
  rfl
theorem prA_hi {p x : Nat} {xs : List Nat} (h : row.drop p = x :: xs) : prA sz A M row (p + 1) = List.replicate (p + 1) 0 ++ ((dp sz A M x xs).map (fun z : Nat × Nat => z.1) ++ [0]) := by
  unfold prA
  rw [bef_nx h, drop_nx h]
theorem prA_lo {p x : Nat} {xs : List Nat} (h : row.drop p = x :: xs) : prA sz A M row p = List.replicate p 0 ++ (dpE sz A M (bfN row p) x xs (dp sz A M x xs)).1 :: ((dp sz A M x xs).map (·.1) ++ [0]) := by
  unfold prA
  rw [h]
  rfl
theorem rpA_hi {p x : Nat} {xs : List Nat} (h : row.drop p = x :: xs) : rpA sz A M row (p + 1) = List.replicate (p + 1) 0 ++ (dp sz A M x xs).map (·.2) := by
  unfold rpA
  rw [bef_nx h, drop_nx h]
theorem rpA_lo {p x : Nat} {xs : List Nat} (h : row.drop p = x :: xs) : rpA sz A M row p = List.replicate p 0 ++ (dpE sz A M (bfN row p) x xs (dp sz A M x xs)).2 :: (dp sz A M x xs).map (·.2) := by
  unfold rpA
  rw [h]
  rfl
theorem prA_len {p : Nat} (h : p ≤ row.length) : (prA sz A M row p).length = row.length + 1 := by
  unfold prA
  rw [List.length_append, List.length_append, List.length_map, List.length_replicate, dp_len, List.length_drop, List.length_singleton]
  omega
theorem rpA_len {p : Nat} (h : p ≤ row.length) : (rpA sz A M row p).length = row.length := by
  unfold rpA
  rw [List.length_append, List.length_map, List.length_replicate, dp_len, List.length_drop]
  omega
/-- what a place does to the arrays -/
structure Plc (sz : Nat → Nat) (A M : Nat) (row : List Nat) (p : Nat) (x c L G : Nat) (P Q : List Nat) : Prop where
  pl : P.length = row.length + 1
  ql : Q.length = row.length
  nx : P.getD (p + 1) 0 + sz x = L
  jp : 0 < c → P.getD (p + c) 0 + A = G
  cl : p + c ≤ row.length
  no : ¬ (0 < c ∧ (G < L ∨ (G = L ∧ 1 < c))) → P.set p L = prA sz A M row p ∧ Q = rpA sz A M row p
  yes : (0 < c ∧ (G < L ∨ (G = L ∧ 1 < c))) → P.set p G = prA sz A M row p ∧ Q.set p c = rpA sz A M row p
theorem plc {p x : Nat} {xs : List Nat} (hp : p < row.length) (h : row.drop p = x :: xs) : ∃ L G, Plc sz A M row p x (min (runL (bfN row p) (row.drop p)) M) L G (prA sz A M row (p + 1)) (rpA sz A M row (p + 1)) := by
  have e0 : ∀ c, 0 < c → (prA sz A M row (p + 1)).getD (p + c) 0 = ((dp sz A M x xs).getD (c - 1) (0, 0)).1 := by
    intro c hc
    rw [prA_hi h, show p + c = p + 1 + (c - 1) by omega, getD_rep, costs_getD]
  have hr := runL_le (b := bfN row p) (xs := row.drop p)
  rw [List.length_drop] at hr
  rw [h] at hr ⊢
  refine ⟨sz x + ((dp sz A M x xs).getD 0 (0, 0)).1, A + ((dp sz A M x xs).getD (min (runL (bfN row p) (x :: xs)) M - 1) (0, 0)).1, prA_len (by omega), rpA_len (by omega), ?_, fun hc => ?_, by omega, fun hn => ?_, fun hy => ?_⟩
  · rw [e0 1 (by decide), Nat.add_comm]
  · rw [e0 _ hc, Nat.add_comm]
  · rw [prA_lo h, rpA_lo h, prA_hi h, rpA_hi h, set_rep]
    unfold dpE
    rw [if_neg hn]
    refine ⟨rfl, ?_⟩
    rw [List.replicate_succ', List.append_assoc]
    rfl
  · rw [prA_lo h, rpA_lo h, prA_hi h, rpA_hi h, set_rep, set_rep]
    unfold dpE
    rw [if_pos hy]
    exact ⟨rfl, rfl⟩
end
theorem rep_nat {k : Nat} : (List.replicate k [D.v (V.int 0)]).flatten = natD (List.replicate k 0) := by
  induction k with
  | zero => rfl
  | succ k ih =>
    rw [List.replicate_succ, List.flatten_cons, ih, List.replicate_succ]
    rfl
theorem prA_top {sz : Nat → Nat} {A M : Nat} {row : List Nat} : prA sz A M row row.length = List.replicate (row.length + 1) 0 := by
  unfold prA
  rw [List.drop_length, List.replicate_succ']
  rfl
theorem rpA_top {sz : Nat → Nat} {A M : Nat} {row : List Nat} : rpA sz A M row row.length = List.replicate row.length 0 := by
  unfold rpA
  rw [List.drop_length]
  simp [dp]
section
variable {rungs : List (Nat × Nat)} {r : Option (Nat × Nat)}
theorem run_here {b x : Nat} {xs : List Nat} : runL b (x :: xs) = if x = b then runL x xs + 1 else 0 := by
  rw [runL]
  by_cases e : x = b
  · subst e
    rw [if_pos rfl]
  · rw [if_neg e, if_neg e]
/-- a turn of the program -/
def fbB (K : PySem.W.Frag) : FSt := (fSeq (fAsg (fIfE (fTest (fOp oEq (fOp oIx (fVar 0) (fVar 8)) (fDef [false, false] F_number_before [] (fCons (fVar 0) (fCons (fVar 8) fNil))))) (fOp (oAdd false) (fVar 7) (fC (.int 1))) (fC (.int 0))) (gNm 7)) (fSeq (fSet (fVar 5) (fVar 8) (fOp (oAdd false) (fOp oIx (fVar 2) (fVar 8)) (fOp oIx (fVar 5) (fOp (oAdd false) (fVar 8) (fC (.int 1)))))) (fSeq (fAsg (fCB cMin2 (fCons (fVar 7) (fCons (fMet (He.ga K "Table") "most_repeated" (FRL.F_Table_most_repeated K) [] (fVar 1) fNil) fNil))) (gNm 9)) (fSeq (fAsg (fOp (oAdd false) (fVar 4) (fOp oIx (fVar 5) (fOp (oAdd false) (fVar 8) (fVar 9)))) (gNm 10)) (fIf (fOr (fTest (fOp (oI0 fun i j => .bl (decide (i < j))) (fVar 10) (fOp oIx (fVar 5) (fVar 8)))) (fAnd (fTest (fOp oEqD (fVar 10) (fOp oIx (fVar 5) (fVar 8)))) (fTest (fOp (oI0 fun i j => .bl (decide (j < i))) (fVar 9) (fC (.int 1)))))) (fSeq (fSet (fVar 5) (fVar 8) (fVar 10)) (fSet (fVar 6) (fVar 8) (fVar 9))) fNext)))))
theorem fb_turn {K : PySem.W.Frag} (T : Tb rungs r) {row : List Nat} {p : Nat} (hp : p < row.length) (hn : row.length ≤ 1000) (k : Rho → Mu → Option So) : turn (gNm 8) (fbB K) [8, 9, 10] 2 (wi (p : Nat)) [some (.d (.lst (natD row))), some (.d (tbO K rungs r)), some (.d (.lst (natD (row.map (szN rungs))))), none, some (wi (apN r : Nat)), some (.m 0), some (.m 1), some (wi (runL (bfN row (p + 1)) (row.drop (p + 1)) : Nat)), none, none, none] [.lst (natD (prA (szN rungs) (apN r) (mrN r) row (p + 1))), .lst (natD (rpA (szN rungs) (apN r) (mrN r) row (p + 1)))] k = k [some (.d (.lst (natD row))), some (.d (tbO K rungs r)), some (.d (.lst (natD (row.map (szN rungs))))), none, some (wi (apN r : Nat)), some (.m 0), some (.m 1), some (wi (runL (bfN row p) (row.drop p) : Nat)), none, none, none] [.lst (natD (prA (szN rungs) (apN r) (mrN r) row p)), .lst (natD (rpA (szN rungs) (apN r) (mrN r) row p))] := by
  have hd : row.drop p = row[p] :: row.drop (p + 1) := List.drop_eq_getElem_cons hp
  obtain ⟨L, G, Z⟩ := plc (sz := szN rungs) (A := apN r) (M := mrN r) hp hd
  have eb : bfN row (p + 1) = row[p] := bef_nx hd
  have er := run_here (b := bfN row p) (x := row[p]) (xs := row.drop (p + 1))
  rw [← hd, ← eb] at er
  have e1 : atI (natD row) (p : Int) = some (D.int (row[p] : Nat)) := natD_get hp
  have e2 := number_before_eq (row := row) (p := p) (by omega)
  rw [show (0 :: row).getD p 0 = bfN row p from rfl] at e2
  have e3 : atI (natD (row.map (szN rungs))) (p : Int) = some (D.int (szN rungs row[p] : Nat)) := by
    rw [natD_get (by rw [List.length_map]; exact hp), List.getElem_map]
  have e4 : ((p : Nat) : Int) + 1 = ((p + 1 : Nat) : Int) := by omega
  have e5 := most_repeated_eq (K := K) T
  obtain ⟨zl, ql, nx, jp, cl, no, yes⟩ := Z
  rw [eb] at er
  generalize hP : prA (szN rungs) (apN r) (mrN r) row (p + 1) = P at zl nx jp no yes ⊢
  generalize hQ : rpA (szN rungs) (apN r) (mrN r) row (p + 1) = Q at ql no yes ⊢
  have e6 : atI (natD P) ((p + 1 : Nat) : Int) = some (D.int (P.getD (p + 1) 0 : Nat)) := natD_getD (by omega)
  generalize P.getD (p + 1) 0 = nxt at nx e6
  have e7 : ((szN rungs row[p] : Nat) : Int) + (nxt : Nat) = ((L : Nat) : Int) := by omega
  have i1 : ixN (natD P).length (p : Int) = some p := DL.ixN_nat (by rw [natD_len]; omega)
  have i2 : ixN (natD Q).length (p : Int) = some p := DL.ixN_nat (by rw [natD_len]; omega)
  have i3 : (natD P).set p (D.v (V.int (L : Nat))) = natD (P.set p L) := natD_set
  have l3 : (P.set p L).length = row.length + 1 := by rw [List.length_set]; exact zl
  have e8 : atI (natD (P.set p L)) (p : Int) = some (D.int (L : Nat)) := by
    rw [natD_getD (by omega), getD_set (by omega), if_pos rfl]
  have i4 : ixN (natD (P.set p L)).length (p : Int) = some p := DL.ixN_nat (by rw [natD_len]; omega)
  generalize hR : runL (bfN row p) (row.drop p) = R at er jp cl no yes ⊢
  generalize hc : min R (mrN r) = c at jp cl no yes
  have e9 : (if ((mrN r : Nat) : Int) < ((R : Nat) : Int) then ((mrN r : Nat) : Int) else ((R : Nat) : Int)) = ((c : Nat) : Int) := by
    split <;> omega
  have e10 : ((p : Nat) : Int) + ((c : Nat) : Int) = ((p + c : Nat) : Int) := by omega
  have e11 : atI (natD (P.set p L)) ((p + c : Nat) : Int) = some (D.int ((P.set p L).getD (p + c) 0 : Nat)) := natD_getD (by omega)
  have e12 : (((apN r : Nat) : Int) + (((P.set p L).getD (p + c) 0 : Nat) : Int)) = ((apN r + (P.set p L).getD (p + c) 0 : Nat) : Int) := by omega
  have g0 : c = 0 → (P.set p L).getD (p + c) 0 = L := fun h => by
    rw [h, Nat.add_zero, getD_set (by omega), if_pos rfl]
  have g1 : 0 < c → apN r + (P.set p L).getD (p + c) 0 = G := fun h => by
    rw [getD_set (by omega), if_neg (by omega), ← jp h, Nat.add_comm]
  generalize (P.set p L).getD (p + c) 0 = W0 at e11 e12 g0 g1
  have i5 : (natD (P.set p L)).set p (D.v (V.int ((apN r + W0 : Nat) : Int))) = natD (P.set p (apN r + W0)) := by
    rw [show D.v (V.int ((apN r + W0 : Nat) : Int)) = D.int ((apN r + W0 : Nat) : Int) from rfl, natD_set, List.set_set]
  have i6 : (natD Q).set p (D.v (V.int ((c : Nat) : Int))) = natD (Q.set p c) := natD_set
  have first : fAsg (fIfE (fTest (fOp oEq (fOp oIx (fVar 0) (fVar 8)) (fDef [false, false] F_number_before [] (fCons (fVar 0) (fCons (fVar 8) fNil))))) (fOp (oAdd false) (fVar 7) (fC (.int 1))) (fC (.int 0))) (gNm 7) [some (.d (.lst (natD row))), some (.d (tbO K rungs r)), some (.d (.lst (natD (row.map (szN rungs))))), none, some (wi (apN r : Nat)), some (.m 0), some (.m 1), some (wi (runL (bfN row (p + 1)) (row.drop (p + 1)) : Nat)), some (wi (p : Nat)), none, none] [.lst (natD P), .lst (natD Q)] = some (.nx [some (.d (.lst (natD row))), some (.d (tbO K rungs r)), some (.d (.lst (natD (row.map (szN rungs))))), none, some (wi (apN r : Nat)), some (.m 0), some (.m 1), some (wi (R : Nat)), some (wi (p : Nat)), none, none] [.lst (natD P), .lst (natD Q)]) := by
    rw [eb]
    by_cases q : row[p] = bfN row p
    · rw [if_pos q] at er
      have q' : (((row[p] : Nat) : Int) = ((bfN row p : Nat) : Int)) = True := eq_true (by omega)
      have er' : ((runL row[p] (row.drop (p + 1)) : Nat) : Int) + 1 = ((R : Nat) : Int) := by omega
      simp? [e1, e2, q', er']
    · rw [if_neg q] at er
      have q' : (((row[p] : Nat) : Int) = ((bfN row p : Nat) : Int)) = False := eq_false (by omega)
      subst er
      simp? [e1, e2, q']
  unfold tbO at e5 first ⊢
  have nos : (lkS (Str.ofString "most_repeated") (tbF rungs r)).isNone = true := by unfold tbF; simp? [Option.isNone_none]
  generalize tbF rungs r = tf at e5 nos first ⊢
  generalize natD row = rowL at first ⊢
  generalize natD (row.map (szN rungs)) = litL at e3 first ⊢
  have body : fbB K [some (.d (.lst rowL)), some (.d (.obj (He.ga K "Table") tf)), some (.d (.lst litL)), none, some (wi (apN r : Nat)), some (.m 0), some (.m 1), some (wi (runL (bfN row (p + 1)) (row.drop (p + 1)) : Nat)), some (wi (p : Nat)), none, none] [.lst (natD P), .lst (natD Q)] = some (.nx [some (.d (.lst rowL)), some (.d (.obj (He.ga K "Table") tf)), some (.d (.lst litL)), none, some (wi (apN r : Nat)), some (.m 0), some (.m 1), some (wi (R : Nat)), some (wi (p : Nat)), some (wi (c : Nat)), some (wi ((apN r + W0 : Nat) : Int))] [.lst (natD (prA (szN rungs) (apN r) (mrN r) row p)), .lst (natD (rpA (szN rungs) (apN r) (mrN r) row p))]) := by
    unfold fbB
    refine (fseq_nx first).trans ?_
    refine (fseq_nx (ρ' := [some (.d (.lst rowL)), some (.d (.obj (He.ga K "Table") tf)), some (.d (.lst litL)), none, some (wi (apN r : Nat)), some (.m 0), some (.m 1), some (wi (R : Nat)), some (wi (p : Nat)), none, none]) (μ' := [.lst (natD (P.set p L)), .lst (natD Q)]) ?h1).trans ?n1
    case h1 => simp? [e3, e4, e6, e7, i1, i3]
    refine (fseq_nx (ρ' := [some (.d (.lst rowL)), some (.d (.obj (He.ga K "Table") tf)), some (.d (.lst litL)), none, some (wi (apN r : Nat)), some (.m 0), some (.m 1), some (wi (R : Nat)), some (wi (p : Nat)), some (wi (c : Nat)), none]) (μ' := [.lst (natD (P.set p L)), .lst (natD Q)]) ?h2).trans ?n2
    case h2 => simp? [e5, e9, nos, pcall, Option.isNone_none]
    refine (fseq_nx (ρ' := [some (.d (.lst rowL)), some (.d (.obj (He.ga K "Table") tf)), some (.d (.lst litL)), none, some (wi (apN r : Nat)), some (.m 0), some (.m 1), some (wi (R : Nat)), some (wi (p : Nat)), some (wi (c : Nat)), some (wi ((apN r + W0 : Nat) : Int))]) (μ' := [.lst (natD (P.set p L)), .lst (natD Q)]) ?h3).trans ?n3
    case h3 => simp? [e10, e11, e12]
    have q2 : ∀ μ, oEqD (wi ((apN r + W0 : Nat) : Int)) (wi (L : Nat)) μ = some (.ok (wb (decide ((apN r + W0 : Nat) = L))) μ) := fun μ => oEqD_n
    by_cases y : 0 < c ∧ (G < L ∨ (G = L ∧ 1 < c))
    · obtain ⟨y1, y2⟩ := yes y
      have g := g1 y.1
      rw [← y1, ← y2, ← g]
      by_cases t1 : apN r + W0 < L
      · have t1' : ((apN r + W0 : Nat) : Int) < (L : Nat) := by omega
        generalize apN r + W0 = V0 at *
        simp? [e8, t1', i4, i5, i2, i6]
      · have t1' : ¬ ((apN r + W0 : Nat) : Int) < (L : Nat) := by omega
        have t2 : apN r + W0 = L := by omega
        have t3 : (1 : Int) < (c : Nat) := by omega
        rw [decide_eq_true t2] at q2
        generalize apN r + W0 = V0 at *
        simp? [e8, t1', q2, t3, i4, i5, i2, i6]
    · obtain ⟨n1, n2⟩ := no y
      rw [← n1, ← n2]
      have t1' : ¬ ((apN r + W0 : Nat) : Int) < (L : Nat) := by
        by_cases z : c = 0
        · have := g0 z; omega
        · have := g1 (by omega); omega
      by_cases t2 : apN r + W0 = L
      · have t3 : ¬ (1 : Int) < (c : Nat) := by
          by_cases z : c = 0
          · omega
          · have := g1 (by omega); omega
        rw [decide_eq_true t2] at q2
        generalize apN r + W0 = V0 at *
        simp? [e8, t1', q2, t3]
      · rw [decide_eq_false t2] at q2
        generalize apN r + W0 = V0 at *
        simp? [e8, t1', q2]
  show lt [8, 9, 10] 2 (fbB K [some (.d (.lst rowL)), some (.d (.obj (He.ga K "Table") tf)), some (.d (.lst litL)), none, some (wi (apN r : Nat)), some (.m 0), some (.m 1), some (wi (runL (bfN row (p + 1)) (row.drop (p + 1)) : Nat)), some (wi (p : Nat)), none, none] [.lst (natD P), .lst (natD Q)]) k = _
  rw [body]
  rfl
end
section
variable {rungs : List (Nat × Nat)} {r : Option (Nat × Nat)}
theorem fewest_bits_eq {K : PySem.W.Frag} (T : Tb rungs r) {row : List Nat} (hn : row.length ≤ 1000) (hx : ∀ x ∈ row, x < sS rungs rungs.length) : F_fewest_bits K [.d (.lst (natD row)), .d (tbO K rungs r)] [] = some (.ok (.d (.tup [.int (cst (szN rungs) (apN r) (mrN r) 0 row : Nat), .lst (natD (rpA (szN rungs) (apN r) (mrN r) row 0))])) []) := by
  have lp : ∀ {j : Nat}, j ≤ row.length → fLoop (gNm 8) (fbB K) [8, 9, 10] 2 ((List.range j).map fun t : Nat => wi ((j - 1 - t : Nat) : Int)) [some (.d (.lst (natD row))), some (.d (tbO K rungs r)), some (.d (.lst (natD (row.map (szN rungs))))), none, some (wi (apN r : Nat)), some (.m 0), some (.m 1), some (wi (runL (bfN row j) (row.drop j) : Nat)), none, none, none] [.lst (natD (prA (szN rungs) (apN r) (mrN r) row j)), .lst (natD (rpA (szN rungs) (apN r) (mrN r) row j))] = some (.nx [some (.d (.lst (natD row))), some (.d (tbO K rungs r)), some (.d (.lst (natD (row.map (szN rungs))))), none, some (wi (apN r : Nat)), some (.m 0), some (.m 1), some (wi (runL (bfN row 0) (row.drop 0) : Nat)), none, none, none] [.lst (natD (prA (szN rungs) (apN r) (mrN r) row 0)), .lst (natD (rpA (szN rungs) (apN r) (mrN r) row 0))]) := by
    intro j
    induction j with
    | zero => intro _; rfl
    | succ j ih =>
      intro hj
      rw [List.range_succ_eq_map, List.map_cons, List.map_map, fLoop]
      rw [show (j + 1 - 1 - 0 : Nat) = j by omega, fb_turn T (by omega) hn]
      have e : ((fun t : Nat => wi ((j + 1 - 1 - t : Nat) : Int)) ∘ Nat.succ) = fun t : Nat => wi ((j - 1 - t : Nat) : Int) := by
        funext t
        show wi ((j + 1 - 1 - (t + 1) : Nat) : Int) = _
        rw [show j + 1 - 1 - (t + 1) = j - 1 - t by omega]
      rw [e]
      exact ih (by omega)
  have hr : rintsC (((row.length : Nat) : Int) - 1) (-1) row.length = (List.range row.length).map fun t : Nat => wi ((row.length - 1 - t : Nat) : Int) := by
    unfold rintsC
    refine List.map_congr_left fun t ht => ?_
    have := List.mem_range.mp ht
    rw [show ((row.length : Nat) : Int) - 1 + (t : Nat) * -1 = ((row.length - 1 - t : Nat) : Int) by omega]
  have e0 : ∀ x ∈ row, lcTurn (gNm 3) fYes (fMet (He.ga K "Table") "literal_price" (F_Table_literal_price K) [] (fVar 1) (fCons (fVar 3) fNil)) [3] [some (.d (.lst (natD row))), some (.d (tbO K rungs r)), none, none, none, none, none, none, none, none, none] 0 (wi (x : Nat)) [] = some (some (D.int (szN rungs x : Nat)), []) := by
    intro x h
    have e := literal_price_eq (K := K) T (hx x h)
    have nos : (lkS (Str.ofString "literal_price") (tbF rungs r)).isNone = true := by unfold tbF; simp? [Option.isNone_none]
    unfold tbO at e ⊢
    generalize tbF rungs r = tf at e nos ⊢
    simp? [e, nos, pcall, Option.isNone_none]
  have e1 : (row.map fun x : Nat => D.int (szN rungs x : Nat)) = natD (row.map (szN rungs)) := by
    unfold natD
    rw [List.map_map]
    rfl
  have e2 := repetition_price_eq (K := K) (rungs := rungs) (r := r)
  have nop : (lkS (Str.ofString "repetition_price") (tbF rungs r)).isNone = true := by unfold tbF; simp? [Option.isNone_none]
  have e3 : ((row.length : Nat) : Int) + 1 = ((row.length + 1 : Nat) : Int) := by omega
  have b1 : (leI 0 ((row.length + 1 : Nat) : Int) && leI ((row.length + 1 : Nat) : Int) 1000000) = true := by rw [Bool.and_eq_true, leI_iff, leI_iff]; omega
  have b2 : (leI 0 ((row.length : Nat) : Int) && leI ((row.length : Nat) : Int) 1000000) = true := by rw [Bool.and_eq_true, leI_iff, leI_iff]; omega
  have l0 : runL (bfN row row.length) (row.drop row.length) = 0 := by rw [List.drop_length]; rfl
  have lp := lp (Nat.le_refl _)
  rw [l0, prA_top, rpA_top] at lp
  have lc : (prA (szN rungs) (apN r) (mrN r) row 0).getD 0 0 = cst (szN rungs) (apN r) (mrN r) 0 row := by
    unfold prA
    rw [List.replicate_zero, List.nil_append, costs_getD]
    rfl
  have pl : atI (natD (prA (szN rungs) (apN r) (mrN r) row 0)) 0 = some (D.int (cst (szN rungs) (apN r) (mrN r) 0 row : Nat)) := by
    rw [← lc]
    exact natD_getD (i := 0) (by rw [prA_len (Nat.zero_le _)]; omega)
  have key : B_fewest_bits K [some (.d (.lst (natD row))), some (.d (tbO K rungs r)), none, none, none, none, none, none, none, none, none] [] = some (.rt (.d (.tup [.int (cst (szN rungs) (apN r) (mrN r) 0 row : Nat), .lst (natD (rpA (szN rungs) (apN r) (mrN r) row 0))])) [.dead, .dead]) := by
    unfold B_fewest_bits
    refine (fseq_nx (ρ' := [some (.d (.lst (natD row))), some (.d (tbO K rungs r)), some (.d (.lst (natD (row.map (szN rungs))))), none, none, none, none, none, none, none, none]) (μ' := []) ?h1).trans ?n1
    case h1 =>
      simp? [natD_items, natD_len]
      rw [lcs_mapw (fun x : Nat => wi (x : Nat)) (fun x : Nat => D.int (szN rungs x : Nat)) e0, e1]
      simp? [natD_len, List.length_map]
    unfold B_fewest_bits_1
    refine (fseq_nx (ρ' := [some (.d (.lst (natD row))), some (.d (tbO K rungs r)), some (.d (.lst (natD (row.map (szN rungs))))), none, some (wi (apN r : Nat)), none, none, none, none, none, none]) (μ' := []) ?h2).trans ?n2
    case h2 =>
      unfold tbO at e2 ⊢
      generalize tbF rungs r = tf at e2 nop ⊢
      simp? [e2, nop, pcall, Option.isNone_none]
    unfold B_fewest_bits_2
    refine (fseq_nx (ρ' := [some (.d (.lst (natD row))), some (.d (tbO K rungs r)), some (.d (.lst (natD (row.map (szN rungs))))), none, some (wi (apN r : Nat)), some (.m 0), none, none, none, none, none]) (μ' := [.lst (natD (List.replicate (row.length + 1) 0))]) ?h3).trans ?n3
    case h3 =>
      have b3 : row.length + 1 ≤ 1001 := by omega
      generalize row.length + 1 = N at e3 b1 b3 ⊢
      simp? [natD_len, e3, b1, rep_nat, Int.toNat_natCast]
    unfold B_fewest_bits_3
    refine (fseq_nx (ρ' := [some (.d (.lst (natD row))), some (.d (tbO K rungs r)), some (.d (.lst (natD (row.map (szN rungs))))), none, some (wi (apN r : Nat)), some (.m 0), some (.m 1), none, none, none, none]) (μ' := [.lst (natD (List.replicate (row.length + 1) 0)), .lst (natD (List.replicate row.length 0))]) ?h4).trans ?n4
    case h4 => simp? [natD_len, b2, rep_nat, Int.toNat_natCast]
    unfold B_fewest_bits_4
    refine (fseq_nx (ρ' := [some (.d (.lst (natD row))), some (.d (tbO K rungs r)), some (.d (.lst (natD (row.map (szN rungs))))), none, some (wi (apN r : Nat)), some (.m 0), some (.m 1), some (wi 0), none, none, none]) (μ' := [.lst (natD (List.replicate (row.length + 1) 0)), .lst (natD (List.replicate row.length 0))]) ?h5).trans ?n5
    case h5 => simp? [eq_self]
    unfold B_fewest_bits_5
    refine (fseq_nx (ρ' := [some (.d (.lst (natD row))), some (.d (tbO K rungs r)), some (.d (.lst (natD (row.map (szN rungs))))), none, some (wi (apN r : Nat)), some (.m 0), some (.m 1), some (wi (runL (bfN row 0) (row.drop 0) : Nat)), none, none, none]) (μ' := [.lst (natD (prA (szN rungs) (apN r) (mrN r) row 0)), .lst (natD (rpA (szN rungs) (apN r) (mrN r) row 0))]) ?h6).trans ?n6
    case h6 =>
      refine Eq.trans ?_ lp
      unfold fbB
      generalize natD (List.replicate (row.length + 1) 0) = P0
      generalize natD (List.replicate row.length 0) = Q0
      unfold fFor
      rw [show iRevR1 (fCB cLen (fCons (fVar 0) fNil)) [some (.d (.lst (natD row))), some (.d (tbO K rungs r)), some (.d (.lst (natD (row.map (szN rungs))))), none, some (wi (apN r : Nat)), some (.m 0), some (.m 1), some (wi 0), none, none, none] [.lst P0, .lst Q0] = some (.ok ((List.range row.length).map fun t : Nat => wi ((row.length - 1 - t : Nat) : Int)) [.lst P0, .lst Q0]) from by
        rw [← hr]
        simp? [natD_len, Int.toNat_natCast]]
      rfl
    unfold B_fewest_bits_6
    generalize prA (szN rungs) (apN r) (mrN r) row 0 = P at pl ⊢
    generalize rpA (szN rungs) (apN r) (mrN r) row 0 = Q
    simp? [pl]
  unfold F_fewest_bits fRun
  rw [if_pos (show [W.d (.lst (natD row)), W.d (tbO K rungs r)].length = 2 from rfl)]
  show fin false 0 (B_fewest_bits K [some (.d (.lst (natD row))), some (.d (tbO K rungs r)), none, none, none, none, none, none, none, none, none] []) = _
  rw [key]
  rfl
theorem price_eq {K : PySem.W.Frag} (T : Tb rungs r) {row : List Nat} (hn : row.length ≤ 1000) (hx : ∀ x ∈ row, x < sS rungs rungs.length) : F_price K [.d (.lst (natD row)), .d (tbO K rungs r)] [] = some (.ok (wi (cst (szN rungs) (apN r) (mrN r) 0 row : Nat)) []) := by
  have e := fewest_bits_eq (K := K) T hn hx
  generalize tbO K rungs r = o at e ⊢
  generalize natD row = L at e ⊢
  unfold F_price B_price
  simp? [e]
end
/-! ### the tokens told -/
def tokD (q : Bool × Nat) : D := .tup [.v (.str (if q.1 = true then "again" else "one")), .int (q.2 : Nat)]
section
variable {S row : List Nat}
theorem wkI_fold : ∀ {t : Nat}, (List.range t).foldl (fun q _ => wkF S row q) (0, []) = wkI S row t
  | 0 => rfl
  | t + 1 => by rw [foldR, wkI_fold]; rfl
theorem wkF_len {q : Nat × List (Bool × Nat)} : (wkF S row q).2.length ≤ q.2.length + 1 := by
  unfold wkF
  split
  · split <;> simp
  · exact Nat.le_succ _
theorem wkI_len : ∀ {t : Nat}, (wkI S row t).2.length ≤ t
  | 0 => Nat.le_refl _
  | t + 1 => Nat.le_trans wkF_len (Nat.succ_le_succ wkI_len)
theorem wkI_stay {m : Nat} (h : row.length ≤ (wkI S row m).1) : ∀ {i : Nat}, wkI S row (m + i) = wkI S row m
  | 0 => rfl
  | i + 1 => by
    show wkF S row (wkI S row (m + i)) = _
    rw [wkI_stay h]
    unfold wkF
    rw [if_neg (by omega)]
theorem wk_stop {n : Nat} (h : row.length ≤ (wkI S row n).1) : ∃ m, m ≤ n ∧ (∀ i, i < m → (wkI S row i).1 < row.length) ∧ row.length ≤ (wkI S row m).1 ∧ wkI S row n = wkI S row m := by
  have key : ∀ k, k ≤ n → (∀ i, i < k → (wkI S row i).1 < row.length) ∨ ∃ m, m ≤ n ∧ (∀ i, i < m → (wkI S row i).1 < row.length) ∧ row.length ≤ (wkI S row m).1 := by
    intro k
    induction k with
    | zero => exact fun _ => .inl fun i h => by omega
    | succ k ih =>
      intro hk
      rcases ih (by omega) with a | a
      · by_cases c : (wkI S row k).1 < row.length
        · exact .inl fun i hi => by
            by_cases e : i = k
            · subst e
              exact c
            · exact a i (by omega)
        · exact .inr ⟨k, by omega, a, by omega⟩
      · exact .inr a
  rcases key n (Nat.le_refl _) with a | ⟨m, a, b, c⟩
  · exact ⟨n, Nat.le_refl _, a, h, rfl⟩
  · refine ⟨m, a, b, c, ?_⟩
    have := wkI_stay (S := S) c (i := n - m)
    rw [show m + (n - m) = n by omega] at this
    exact this
theorem tok_snoc {l : List (Bool × Nat)} {q : Bool × Nat} : l.map tokD ++ [tokD q] = (l ++ [q]).map tokD := by
  rw [List.map_append]
  rfl
end
theorem rpA_0 {sz : Nat → Nat} {A M : Nat} {row : List Nat} : rpA sz A M row 0 = (dp sz A M 0 row).map (fun z : Nat × Nat => z.2) := rfl
theorem walk_all {sz : Nat → Nat} {A M : Nat} {row : List Nat} : (wkI (rpA sz A M row 0) row row.length).2 = tk sz A M row.length 0 row ∧ row.length ≤ (wkI (rpA sz A M row 0) row row.length).1 := by
  obtain ⟨a, b⟩ := walk_tk (sz := sz) (A := A) (M := M) (row := row) (f := row.length) (p := 0) (acc := []) (Nat.zero_le _)
  rw [← rpA_0, wkI_fold] at a b
  exact ⟨by rw [a]; rfl, b (by omega)⟩
section
variable {rungs : List (Nat × Nat)} {r : Option (Nat × Nat)}
theorem least_tokens_eq {K : PySem.W.Frag} (T : Tb rungs r) {row : List Nat} (hn : row.length ≤ 1000) (hx : ∀ x ∈ row, x < sS rungs rungs.length) : F_least_tokens K [.d (.lst (natD row)), .d (tbO K rungs r)] [] = some (.ok (.d (.tup ((tk (szN rungs) (apN r) (mrN r) row.length 0 row).map tokD))) []) := by
  have e := fewest_bits_eq (K := K) T hn hx
  obtain ⟨w1, w2⟩ := walk_all (sz := szN rungs) (A := apN r) (M := mrN r) (row := row)
  have sl : (rpA (szN rungs) (apN r) (mrN r) row 0).length = row.length := rpA_len (Nat.zero_le _)
  obtain ⟨m, m1, m2, m3, m4⟩ := wk_stop w2
  rw [← w1, m4]
  generalize rpA (szN rungs) (apN r) (mrN r) row 0 = S at e sl m2 m3 ⊢
  generalize cst (szN rungs) (apN r) (mrN r) 0 row = z at e
  generalize tbO K rungs r = o at e ⊢
  have key := whl_by (t := (fTest (fOp (oI0 fun i j => .bl (decide (i < j))) (fVar 5) (fCB cLen (fCons (fVar 0) fNil))))) (b := (fSeq (fAsg (fOp oIx (fVar 3) (fVar 5)) (gNm 6)) (fSeq (fApp (fVar 4) (fIfE (fTest (fOp (oI0 fun i j => .bl (decide (j < i))) (fVar 6) (fC (.int 0)))) (fTup (fCons (fC (.str "again")) (fCons (fVar 6) fNil))) (fTup (fCons (fC (.str "one")) (fCons (fOp oIx (fVar 0) (fVar 5)) fNil))))) (fAug 5 (fun i j => i + j) (fCB cMax2 (fCons (fVar 6) (fCons (fC (.int 1)) fNil))))))) (dead := [6]) (n := 1) (m := m) (fun i => ([some (.d (.lst (natD row))), some (.d o), some (wi (z : Nat)), some (.d (.lst (natD S))), some (.m 0), some (wi ((wkI S row i).1 : Nat)), none], [.lst ((wkI S row i).2.map tokD)])) (fun i hi k => by
    have hp := m2 i hi
    have hl := wkI_len (S := S) (row := row) (t := i)
    have hi2 : (wkI S row (i + 1)) = wkF S row (wkI S row i) := rfl
    rw [hi2]
    generalize wkI S row i = q at hp hl ⊢
    obtain ⟨p, ts⟩ := q
    dsimp only at hp hl ⊢
    have c1 : ((p : Nat) : Int) < (row.length : Nat) := by omega
    have e1 : atI (natD S) (p : Int) = some (D.int (S.getD p 0 : Nat)) := natD_getD (by omega)
    have e2 : atI (natD row) (p : Int) = some (D.int (row.getD p 0 : Nat)) := natD_getD hp
    have l1 : (natD row).length = row.length := natD_len
    have l2 : (ts.map tokD).length = ts.length := List.length_map ..
    unfold wkF
    dsimp only
    rw [if_pos hp]
    by_cases c : 0 < S.getD p 0
    · rw [if_pos c]
      have t1 := tok_snoc (l := ts) (q := (true, S.getD p 0))
      rw [show tokD (true, S.getD p 0) = .tup [.v (.str "again"), .int (S.getD p 0 : Nat)] from rfl] at t1
      have c' : (0 : Int) < (S.getD p 0 : Nat) := by omega
      have c2 : ¬ ((S.getD p 0 : Nat) : Int) < 1 := by omega
      have e3 : ((p : Nat) : Int) + (S.getD p 0 : Nat) = ((p + S.getD p 0 : Nat) : Int) := by omega
      dsimp only
      generalize (ts ++ [(true, S.getD p 0)]).map tokD = U at t1 ⊢
      generalize ts.map tokD = V at t1 l2 ⊢
      generalize p + S.getD p 0 = p' at e3 ⊢
      generalize S.getD p 0 = s at *
      generalize natD S = SL at e1 ⊢
      generalize natD row = RL at e2 l1 ⊢
      simp? [l1, l2, c1, e1, c', c2, t1, e3]
    · rw [if_neg c]
      have t1 := tok_snoc (l := ts) (q := (false, row.getD p 0))
      rw [show tokD (false, row.getD p 0) = .tup [.v (.str "one"), .int (row.getD p 0 : Nat)] from rfl] at t1
      have c' : ¬ (0 : Int) < (S.getD p 0 : Nat) := by omega
      have c2 : ((S.getD p 0 : Nat) : Int) < 1 := by omega
      have e3 : ((p : Nat) : Int) + 1 = ((p + 1 : Nat) : Int) := by omega
      dsimp only
      generalize (ts ++ [(false, row.getD p 0)]).map tokD = U at t1 ⊢
      generalize ts.map tokD = V at t1 l2 ⊢
      generalize p + 1 = p' at e3 ⊢
      generalize S.getD p 0 = s at *
      generalize row.getD p 0 = x at *
      generalize natD S = SL at e1 ⊢
      generalize natD row = RL at e2 l1 ⊢
      simp? [l1, l2, c1, e1, e2, c', c2, t1, e3]) (fun k => by
    have c1 : ¬ (((wkI S row m).1 : Nat) : Int) < (row.length : Nat) := by omega
    have l1 : (natD row).length = row.length := natD_len
    generalize wkI S row m = q at c1 ⊢
    generalize natD row = RL at l1 ⊢
    simp? [l1, c1]) (i := 0) (fuel := 4096) (Nat.zero_le _) (by omega)
  have body : B_least_tokens K [some (.d (.lst (natD row))), some (.d o), none, none, none, none, none] [] = some (.rt (.d (.tup ((wkI S row m).2.map tokD))) [.dead]) := by
    unfold B_least_tokens
    refine (fseq_nx (ρ' := [some (.d (.lst (natD row))), some (.d o), some (wi (z : Nat)), some (.d (.lst (natD S))), none, none, none]) (μ' := []) ?h1).trans ?n1
    case h1 => simp? [e]
    unfold B_least_tokens_1
    refine (fseq_nx (ρ' := [some (.d (.lst (natD row))), some (.d o), some (wi (z : Nat)), some (.d (.lst (natD S))), some (.m 0), none, none]) (μ' := [.lst []]) ?h2).trans ?n2
    case h2 => simp? [eq_self]
    unfold B_least_tokens_2
    refine (fseq_nx (ρ' := [some (.d (.lst (natD row))), some (.d o), some (wi (z : Nat)), some (.d (.lst (natD S))), some (.m 0), some (wi 0), none]) (μ' := [.lst []]) ?h3).trans ?n3
    case h3 => simp? [eq_self]
    unfold B_least_tokens_3
    refine (fseq_nx (show _ = _ from key)).trans ?n4
    unfold B_least_tokens_4
    have hl : ((wkI S row m).2.map tokD).length ≤ 1000 := by
      rw [List.length_map]
      have := wkI_len (S := S) (row := row) (t := m)
      omega
    generalize (wkI S row m).2.map tokD = L at hl ⊢
    generalize (wkI S row m).1 = y
    simp? [eq_self]
  unfold F_least_tokens fRun
  rw [if_pos (show [W.d (.lst (natD row)), W.d o].length = 2 from rfl)]
  show fin false 0 (B_least_tokens K [some (.d (.lst (natD row))), some (.d o), none, none, none, none, none] []) = _
  rw [body]
  rfl
/-- a turn of the law -/
def llB : FSt := (fSeq (fAsg (fOp oSub (fOp oSub (fVar 2) (fC (.int 1))) (fVar 5)) (gNm 6)) (fSeq (fAsg (fOp (oAdd false) (fDef [false, false] F_L_size [] (fCons (fOp oIx (fVar 1) (fC (.int 0))) (fCons (fOp oIx (fVar 0) (fVar 6)) fNil))) (fOp oIx (fVar 3) (fOp (oAdd false) (fVar 6) (fC (.int 1))))) (gNm 7)) (fSeq (fAsg (fDef [false, false, false] F_L_longest [] (fCons (fVar 0) (fCons (fVar 6) (fCons (fOp oIx (fVar 1) (fC (.int 1))) fNil)))) (gNm 8)) (fSeq (fIf (fTest (fOp (oI0 fun i j => .bl (decide (j < i))) (fVar 8) (fC (.int 0)))) (fSeq (fAsg (fOp (oAdd false) (fOp (oAdd false) (fOp oIx (fOp oIx (fVar 1) (fC (.int 1))) (fC (.int 0))) (fOp oIx (fOp oIx (fVar 1) (fC (.int 1))) (fC (.int 1)))) (fOp oIx (fVar 3) (fOp (oAdd false) (fVar 6) (fVar 8)))) (gNm 9)) (fIf (fOr (fTest (fOp (oI0 fun i j => .bl (decide (i < j))) (fVar 9) (fVar 7))) (fAnd (fTest (fOp oEqD (fVar 9) (fVar 7))) (fTest (fOp (oI0 fun i j => .bl (decide (j < i))) (fVar 8) (fC (.int 1)))))) (fSeq (fAsg (fVar 9) (gNm 7)) (fSet (fVar 4) (fVar 6) (fVar 8))) fNext)) fNext) (fSet (fVar 3) (fVar 6) (fVar 7))))))
theorem ll_turn (T : Tb rungs r) {row : List Nat} {p t : Nat} (ht : t < row.length) (hpt : row.length - 1 - t = p) (hn : row.length ≤ 1000) (hx : ∀ x ∈ row, x < sS rungs rungs.length) (k : Rho → Mu → Option So) : turn (gNm 5) llB [5, 6, 7, 8, 9] 2 (wi (t : Nat)) [some (.d (.lst (natD row))), some (.d (partD rungs r)), some (wi (row.length : Nat)), some (.m 0), some (.m 1), none, none, none, none, none, none, none] [.lst (natD (prA (szN rungs) (apN r) (mrN r) row (p + 1))), .lst (natD (rpA (szN rungs) (apN r) (mrN r) row (p + 1)))] k = k [some (.d (.lst (natD row))), some (.d (partD rungs r)), some (wi (row.length : Nat)), some (.m 0), some (.m 1), none, none, none, none, none, none, none] [.lst (natD (prA (szN rungs) (apN r) (mrN r) row p)), .lst (natD (rpA (szN rungs) (apN r) (mrN r) row p))] := by
  have hp : p < row.length := by omega
  have hd : row.drop p = row[p] :: row.drop (p + 1) := List.drop_eq_getElem_cons hp
  obtain ⟨L, G, Z⟩ := plc (sz := szN rungs) (A := apN r) (M := mrN r) hp hd
  have e0 : ((row.length : Nat) : Int) - 1 - (t : Nat) = ((p : Nat) : Int) := by omega
  have e1 : atI (natD row) (p : Int) = some (D.int (row[p] : Nat)) := natD_get hp
  have e2 := L_size_eq T (hx _ (List.getElem_mem hp))
  have e4 : ((p : Nat) : Int) + 1 = ((p + 1 : Nat) : Int) := by omega
  have e5 := L_longest_eq T hp hn
  rw [show (0 :: row).getD p 0 = bfN row p from rfl] at e5
  have hc0 : r = none → min (runL (bfN row p) (row.drop p)) (mrN r) = 0 := by
    rintro rfl
    exact Nat.min_zero _
  obtain ⟨zl, ql, nx, jp, cl, no, yes⟩ := Z
  generalize hP : prA (szN rungs) (apN r) (mrN r) row (p + 1) = P at zl nx jp no yes ⊢
  generalize hQ : rpA (szN rungs) (apN r) (mrN r) row (p + 1) = Q at ql no yes ⊢
  have e6 : atI (natD P) ((p + 1 : Nat) : Int) = some (D.int (P.getD (p + 1) 0 : Nat)) := natD_getD (by omega)
  generalize P.getD (p + 1) 0 = nxt at nx e6
  have e7 : ((szN rungs row[p] : Nat) : Int) + (nxt : Nat) = ((L : Nat) : Int) := by omega
  have i1 : ixN (natD P).length (p : Int) = some p := DL.ixN_nat (by rw [natD_len]; omega)
  have i2 : ixN (natD Q).length (p : Int) = some p := DL.ixN_nat (by rw [natD_len]; omega)
  have i3 : ∀ v : Nat, (natD P).set p (D.v (V.int (v : Nat))) = natD (P.set p v) := fun v => natD_set
  generalize hc : min (runL (bfN row p) (row.drop p)) (mrN r) = c at jp cl no yes e5 hc0
  have e10 : ((p : Nat) : Int) + ((c : Nat) : Int) = ((p + c : Nat) : Int) := by omega
  have e11 : atI (natD P) ((p + c : Nat) : Int) = some (D.int (P.getD (p + c) 0 : Nat)) := natD_getD (by omega)
  generalize P.getD (p + c) 0 = W0 at e11 jp
  have i6 : (natD Q).set p (D.v (V.int ((c : Nat) : Int))) = natD (Q.set p c) := natD_set
  have q2 : ∀ μ, oEqD (wi (G : Nat)) (wi (L : Nat)) μ = some (.ok (wb (decide (G = L))) μ) := fun μ => oEqD_n
  generalize natD row = rowL at e1 e5 ⊢
  have body : ∃ k9, llB [some (.d (.lst rowL)), some (.d (partD rungs r)), some (wi (row.length : Nat)), some (.m 0), some (.m 1), some (wi (t : Nat)), none, none, none, none, none, none] [.lst (natD P), .lst (natD Q)] = some (.nx [some (.d (.lst rowL)), some (.d (partD rungs r)), some (wi (row.length : Nat)), some (.m 0), some (.m 1), some (wi (t : Nat)), some (wi (p : Nat)), some (wi (if 0 < c ∧ (G < L ∨ (G = L ∧ 1 < c)) then G else L : Nat)), some (wi (c : Nat)), k9, none, none] [.lst (natD (prA (szN rungs) (apN r) (mrN r) row p)), .lst (natD (rpA (szN rungs) (apN r) (mrN r) row p))]) ∧ (k9 = none ∨ ∃ d, k9 = some (.d d)) := by
    refine ⟨if 0 < c then some (wi (G : Nat)) else none, ?_, ?_⟩
    · unfold llB
      refine (fseq_nx (ρ' := [some (.d (.lst rowL)), some (.d (partD rungs r)), some (wi (row.length : Nat)), some (.m 0), some (.m 1), some (wi (t : Nat)), some (wi (p : Nat)), none, none, none, none, none]) (μ' := [.lst (natD P), .lst (natD Q)]) ?h1).trans ?n1
      case h1 =>
        generalize partD rungs r = pd
        simp? [e0]
      refine (fseq_nx (ρ' := [some (.d (.lst rowL)), some (.d (partD rungs r)), some (wi (row.length : Nat)), some (.m 0), some (.m 1), some (wi (t : Nat)), some (wi (p : Nat)), some (wi (L : Nat)), none, none, none, none]) (μ' := [.lst (natD P), .lst (natD Q)]) ?h2).trans ?n2
      case h2 =>
        unfold partD
        generalize rungs.map prD = PR at e2 ⊢
        simp? [e1, e2, e4, e6, e7]
      refine (fseq_nx (ρ' := [some (.d (.lst rowL)), some (.d (partD rungs r)), some (wi (row.length : Nat)), some (.m 0), some (.m 1), some (wi (t : Nat)), some (wi (p : Nat)), some (wi (L : Nat)), some (wi (c : Nat)), none, none, none]) (μ' := [.lst (natD P), .lst (natD Q)]) ?h3).trans ?n3
      case h3 =>
        unfold partD
        generalize rungs.map prD = PR
        generalize repD r = RR at e5 ⊢
        simp? [e5]
      cases r with
      | none =>
        have hc1 := hc0 rfl
        subst hc1
        obtain ⟨n1, n2⟩ := no (by omega)
        rw [if_neg (by omega), if_neg (by omega), ← n1, ← n2]
        generalize partD rungs none = pd
        simp? [Int.lt_irrefl, i1, i3]
      | some q =>
        have eA : (((q.1 : Nat) : Int) + (q.2 : Nat)) + (W0 : Nat) = ((apN (some q) + W0 : Nat) : Int) := by
          show _ = ((q.1 + q.2 + W0 : Nat) : Int)
          omega
        unfold partD repD prD
        generalize (rungs.map fun q => D.tup [.int (q.1 : Nat), .int (q.2 : Nat)]) = PR
        by_cases y0 : 0 < c
        · have g := jp y0
          have y0' : (0 : Int) < (c : Nat) := by omega
          rw [show apN (some q) + W0 = G by omega] at eA
          rw [if_pos y0]
          by_cases y : 0 < c ∧ (G < L ∨ (G = L ∧ 1 < c))
          · obtain ⟨y1, y2⟩ := yes y
            rw [if_pos y, ← y1, ← y2]
            by_cases t1 : G < L
            · have t1' : ((G : Nat) : Int) < (L : Nat) := by omega
              simp? [y0', e10, e11, eA, t1', i1, i3, i2, i6]
            · have t1' : ¬ ((G : Nat) : Int) < (L : Nat) := by omega
              have t3 : (1 : Int) < (c : Nat) := by omega
              rw [decide_eq_true (show G = L by omega)] at q2
              simp? [y0', e10, e11, eA, t1', q2, t3, i1, i3, i2, i6]
          · obtain ⟨n1, n2⟩ := no y
            rw [if_neg y, ← n1, ← n2]
            have t1' : ¬ ((G : Nat) : Int) < (L : Nat) := by omega
            by_cases t2 : G = L
            · have t3 : ¬ (1 : Int) < (c : Nat) := by omega
              rw [decide_eq_true t2] at q2
              simp? [y0', e10, e11, eA, t1', q2, t3, i1, i3]
            · rw [decide_eq_false t2] at q2
              simp? [y0', e10, e11, eA, t1', q2, i1, i3]
        · obtain ⟨n1, n2⟩ := no (by omega)
          have y0' : ¬ (0 : Int) < (c : Nat) := by omega
          rw [if_neg (by omega), if_neg y0, ← n1, ← n2]
          simp? [y0', i1, i3]
    · by_cases y0 : 0 < c
      · rw [if_pos y0]
        exact .inr ⟨_, rfl⟩
      · rw [if_neg y0]
        exact .inl rfl
  obtain ⟨k9, body, hk9⟩ := body
  show lt [5, 6, 7, 8, 9] 2 (llB [some (.d (.lst rowL)), some (.d (partD rungs r)), some (wi (row.length : Nat)), some (.m 0), some (.m 1), some (wi (t : Nat)), none, none, none, none, none, none] [.lst (natD P), .lst (natD Q)]) k = _
  rw [body]
  rcases hk9 with rfl | ⟨d, rfl⟩ <;> rfl
end
end K29

set_option Elab.async false
set_option linter.all false
set_option maxRecDepth 100000
set_option maxHeartbeats 4000000
namespace K29
open PySem L2 Evl DL FR FRL
local macro_rules | `(tactic| walk_at "ev") => `(tactic| simp (disch := omega) only [iET, fCon, fStar, oShr, cNn_r, cMax2, fExt, cAll, cAny, cLB, cSum, cLI, iRevR1, fRun, fin_nx, fin_rt, fin_xc, fin_none, fin_ite, cMul_l, cMul_r, cDiv_r, cPos_r, cPow_r, Nat.not_lt_zero,  fSeq, fIf, fAsg, fAug, oRep, oRepT, fRet, fRetN, fNext, fVar, fC, fOp, fUn, fTest, fAnd, fOr, fNot, fAndV, fOrV, fNotV, fIfE, fNil, fCons, fTup, fLst, fCB, fDef, fDrop, fSet, fApp, fTru, fChain, asB, cLen, cInt, cAbs, cMin2, cIsi, oI, oI0, oMul, oDiv, oMod, oPow, oSub, oEq, oNe, oIx, oAdd, oIsN, oIsB, oNotN, isN, o1U,
  bd_ok, bd_ex, bd_none, bd_ite, sb_nx, sb_rt, sb_bk, sb_ct, sb_xc, sb_none, sb_ite, eb_ok, eb_ex, eb_none, eb_ite, startW, fSl, fPart, fNoPart, fNew, fFld, fFldS, fFldA, fDefK, fSCount, cBool, iSigns, cIsiC, oEqO, mins, insOf, fMet, isO, fGet, fOwn, onlyO, fNeg, fOwnI, oRefl, oShl, cTuple, cList, lookup_lkS, lkS, Nat.reduceEqDiff, Nat.zero_ne_one, Nat.one_ne_zero, str_inj, String.reduceEq, List.isEmpty_nil, List.isEmpty_cons, putD, fRaise0, fRaiseO, fTryAs, fTryOnly, catch_nx, catch_rt, catch_bk, catch_ct, catch_xc, catch_none, catch_ite, allv_some, gone_nx, gone_rt, gone_bk, gone_ct, gone_ite, calm_nx, calm_rt, calm_bk, calm_ct, calm_ite, fXa, cIsX, truW, truth, eq_self, fFor, fFrz, frzW, turn, lt_nx, lt_ct, lt_bk, lt_rt, lt_xc, lt_none, lt_ite, lc, cutL, wipeW, inCutB, cutL, lcTurn, fLc, fYes, iFix, iFixL, iFixT, iR1, iR2, iR3, fixOf, fCallW, passI, passWs, passW, idx, noBb, backW, merge, List.getD_cons_zero, List.getD_cons_succ, Int.cast_ofNat_Int, Int.natCast_one, Int.natCast_zero, List.nodup_cons, List.nodup_nil, List.all_cons, List.all_nil, List.not_mem_nil, not_false_eq_true, and_true, true_and, List.mem_cons, or_false, false_or, gNm, gNl, gCs, gTp, Nat.not_lt_zero, rtW, newL, at_0, at_1, at_2, at_3, at_4, at_5, at_6, at_7, ixN_1_0, ixN_2_0, ixN_2_1, ixN_3_0, ixN_3_1, ixN_3_2, ixN_4_0, ixN_4_1, ixN_4_2, ixN_4_3, ixN_5_0, ixN_5_1, ixN_5_2, ixN_5_3, ixN_5_4, alls, allb, seqOf, lstOf, mlist, scal, tyN, tyW, kt_int_int, kt_int_bool, kt_int_str, kt_int_tuple, kt_int_list, kt_bool_int, kt_bool_bool, kt_bool_str, kt_bool_tuple, kt_bool_list, kt_str_int, kt_str_bool, kt_str_str, kt_str_tuple, kt_str_list, kt_tuple_int, kt_tuple_bool, kt_tuple_str, kt_tuple_tuple, kt_tuple_list, kt_list_int, kt_list_bool, kt_list_str, kt_list_tuple, kt_list_list, kt_NoneType_int, kt_NoneType_bool, kt_NoneType_str, kt_NoneType_tuple, kt_NoneType_list, item, dws,
  List.length_cons, List.length_nil, List.map_cons, List.map_nil, List.cons_append, List.nil_append, List.append_nil, List.getElem?_nil, List.getElem?_cons_zero, List.getElem?_cons_succ, List.set_cons_zero, List.set_cons_succ, List.replicate, Option.map_some, Nat.sub_self, Nat.reduceSub, Nat.reduceAdd, Nat.reduceLT, Nat.reduceLeDiff, decide_true, decide_false, if_true, if_false, ite_true, ite_false, Bool.false_eq_true, Bool.not_true, Bool.not_false, Bool.and_true, Bool.true_and, Bool.and_false, Bool.false_and, Bool.or_true, Bool.true_or, Bool.or_false, Bool.false_or, decide_eq_true_eq, Nat.zero_le, Nat.le_refl, Nat.lt_irrefl, List.take_succ_cons, List.take_zero, List.take_nil, V.int.injEq, V.bl.injEq, V.str.injEq, reduceCtorEq, smallB_le, r62_le, rgB_le, fLstR1, fLstR2, cSortI, isLst, rints_len, Int.toNat_natCast, beq_self_eq_true, Option.some.injEq])
local macro_rules | `(tactic| simp? [$ls,*]) => `(tactic| simp (maxSteps := 2000000) (disch := first | omega | assumption | (simp only [List.length_cons, List.length_nil, List.length_map]; omega)) only [iET, fCon, fStar, oShr, cNn_r, cMax2, fExt, cAll, cAny, cLB, cSum, cLI, iRevR1, fRun, fin_nx, fin_rt, fin_xc, fin_none, fin_ite, cMul_l, cMul_r, cDiv_r, cPos_r, cPow_r, Nat.not_lt_zero,  fSeq, fIf, fAsg, fAug, oRep, oRepT, fRet, fRetN, fNext, fVar, fC, fOp, fUn, fTest, fAnd, fOr, fNot, fAndV, fOrV, fNotV, fIfE, fNil, fCons, fTup, fLst, fCB, fDef, fDrop, fSet, fApp, fTru, fChain, asB, cLen, cInt, cAbs, cMin2, cIsi, oI, oI0, oMul, oDiv, oMod, oPow, oSub, oEq, oNe, oIx, oAdd, oIsN, oIsB, oNotN, isN, o1U,
  bd_ok, bd_ex, bd_none, bd_ite, sb_nx, sb_rt, sb_bk, sb_ct, sb_xc, sb_none, sb_ite, eb_ok, eb_ex, eb_none, eb_ite, startW, fSl, fPart, fNoPart, fNew, fFld, fFldS, fFldA, fDefK, fSCount, cBool, iSigns, cIsiC, oEqO, mins, insOf, fMet, isO, fGet, fOwn, onlyO, fNeg, fOwnI, oRefl, oShl, cTuple, cList, lookup_lkS, lkS, Nat.reduceEqDiff, Nat.zero_ne_one, Nat.one_ne_zero, str_inj, String.reduceEq, List.isEmpty_nil, List.isEmpty_cons, putD, fRaise0, fRaiseO, fTryAs, fTryOnly, catch_nx, catch_rt, catch_bk, catch_ct, catch_xc, catch_none, catch_ite, allv_some, gone_nx, gone_rt, gone_bk, gone_ct, gone_ite, calm_nx, calm_rt, calm_bk, calm_ct, calm_ite, fXa, cIsX, truW, truth, eq_self, fFor, fFrz, frzW, turn, lt_nx, lt_ct, lt_bk, lt_rt, lt_xc, lt_none, lt_ite, lc, cutL, wipeW, inCutB, cutL, lcTurn, fLc, fYes, iFix, iFixL, iFixT, iR1, iR2, iR3, fixOf, fCallW, passI, passWs, passW, idx, noBb, backW, merge, List.getD_cons_zero, List.getD_cons_succ, Int.cast_ofNat_Int, Int.natCast_one, Int.natCast_zero, List.nodup_cons, List.nodup_nil, List.all_cons, List.all_nil, List.not_mem_nil, not_false_eq_true, and_true, true_and, List.mem_cons, or_false, false_or, gNm, gNl, gCs, gTp, Nat.not_lt_zero, rtW, newL, at_0, at_1, at_2, at_3, at_4, at_5, at_6, at_7, ixN_1_0, ixN_2_0, ixN_2_1, ixN_3_0, ixN_3_1, ixN_3_2, ixN_4_0, ixN_4_1, ixN_4_2, ixN_4_3, ixN_5_0, ixN_5_1, ixN_5_2, ixN_5_3, ixN_5_4, alls, allb, seqOf, lstOf, mlist, scal, tyN, tyW, kt_int_int, kt_int_bool, kt_int_str, kt_int_tuple, kt_int_list, kt_bool_int, kt_bool_bool, kt_bool_str, kt_bool_tuple, kt_bool_list, kt_str_int, kt_str_bool, kt_str_str, kt_str_tuple, kt_str_list, kt_tuple_int, kt_tuple_bool, kt_tuple_str, kt_tuple_tuple, kt_tuple_list, kt_list_int, kt_list_bool, kt_list_str, kt_list_tuple, kt_list_list, kt_NoneType_int, kt_NoneType_bool, kt_NoneType_str, kt_NoneType_tuple, kt_NoneType_list, item, dws,
  List.length_cons, List.length_nil, List.map_cons, List.map_nil, List.cons_append, List.nil_append, List.append_nil, List.getElem?_nil, List.getElem?_cons_zero, List.getElem?_cons_succ, List.set_cons_zero, List.set_cons_succ, List.replicate, Option.map_some, Nat.sub_self, Nat.reduceSub, Nat.reduceAdd, Nat.reduceLT, Nat.reduceLeDiff, decide_true, decide_false, if_true, if_false, ite_true, ite_false, Bool.false_eq_true, Bool.not_true, Bool.not_false, Bool.and_true, Bool.true_and, Bool.and_false, Bool.false_and, Bool.or_true, Bool.true_or, Bool.or_false, Bool.false_or, decide_eq_true_eq, Nat.zero_le, Nat.le_refl, Nat.lt_irrefl, List.take_succ_cons, List.take_zero, List.take_nil, V.int.injEq, V.bl.injEq, V.str.injEq, reduceCtorEq, smallB_le, r62_le, rgB_le, fLstR1, fLstR2, cSortI, isLst, rints_len, Int.toNat_natCast, beq_self_eq_true, Option.some.injEq, $ls,*])
section
variable {rungs : List (Nat × Nat)} {r : Option (Nat × Nat)}
theorem L_least_eq (T : Tb rungs r) {row : List Nat} (hn : row.length ≤ 1000) (hx : ∀ x ∈ row, x < sS rungs rungs.length) : F_L_least [.d (.lst (natD row)), .d (partD rungs r)] [] = some (.ok (.d (.tup [.tup ((tk (szN rungs) (apN r) (mrN r) row.length 0 row).map tokD), .int (cst (szN rungs) (apN r) (mrN r) 0 row : Nat)])) []) := by
  have lp : ∀ {j t : Nat}, t + j = row.length → fLoop (gNm 5) llB [5, 6, 7, 8, 9] 2 ((List.range' t j).map fun t : Nat => wi (t : Nat)) [some (.d (.lst (natD row))), some (.d (partD rungs r)), some (wi (row.length : Nat)), some (.m 0), some (.m 1), none, none, none, none, none, none, none] [.lst (natD (prA (szN rungs) (apN r) (mrN r) row j)), .lst (natD (rpA (szN rungs) (apN r) (mrN r) row j))] = some (.nx [some (.d (.lst (natD row))), some (.d (partD rungs r)), some (wi (row.length : Nat)), some (.m 0), some (.m 1), none, none, none, none, none, none, none] [.lst (natD (prA (szN rungs) (apN r) (mrN r) row 0)), .lst (natD (rpA (szN rungs) (apN r) (mrN r) row 0))]) := by
    intro j
    induction j with
    | zero => intro t _; rfl
    | succ j ih =>
      intro t ht
      rw [List.range'_succ, List.map_cons, fLoop, ll_turn T (by omega) (by omega) hn hx]
      exact ih (by omega)
  have lp := lp (j := row.length) (t := 0) (by omega)
  rw [prA_top, rpA_top] at lp
  obtain ⟨w1, w2⟩ := walk_all (sz := szN rungs) (A := apN r) (M := mrN r) (row := row)
  have sl : (rpA (szN rungs) (apN r) (mrN r) row 0).length = row.length := rpA_len (Nat.zero_le _)
  have lc : (prA (szN rungs) (apN r) (mrN r) row 0).getD 0 0 = cst (szN rungs) (apN r) (mrN r) 0 row := by
    unfold prA
    rw [List.replicate_zero, List.nil_append, costs_getD]
    rfl
  have pl : atI (natD (prA (szN rungs) (apN r) (mrN r) row 0)) 0 = some (D.int (cst (szN rungs) (apN r) (mrN r) 0 row : Nat)) := by
    rw [← lc]
    exact natD_getD (i := 0) (by rw [prA_len (Nat.zero_le _)]; omega)
  have b2 : (leI 0 ((row.length : Nat) : Int) && leI ((row.length : Nat) : Int) 1000000) = true := by rw [Bool.and_eq_true, leI_iff, leI_iff]; omega
  rw [← w1]
  generalize cst (szN rungs) (apN r) (mrN r) 0 row = z at pl ⊢
  generalize rpA (szN rungs) (apN r) (mrN r) row 0 = S at lp sl ⊢
  generalize prA (szN rungs) (apN r) (mrN r) row 0 = P at lp pl
  generalize partD rungs r = pd at lp ⊢
  have l1 : (natD row).length = row.length := natD_len
  have turn2 : ∀ (t : Nat) (q : Nat × List (Bool × Nat)) (k : Rho → Mu → Option So), q.2.length ≤ 1000 → turn (gNm 11) (fIf (fAnd (fTest (fOp (oI0 fun i j => .bl (decide (i < j))) (fVar 6) (fVar 2))) (fTest (fOp (oI0 fun i j => .bl (decide (j < i))) (fOp oIx (fVar 4) (fVar 6)) (fC (.int 0))))) (fSeq (fApp (fVar 10) (fTup (fCons (fC (.str "again")) (fCons (fOp oIx (fVar 4) (fVar 6)) fNil)))) (fAsg (fOp (oAdd false) (fVar 6) (fOp oIx (fVar 4) (fVar 6))) (gNm 6))) (fIf (fTest (fOp (oI0 fun i j => .bl (decide (i < j))) (fVar 6) (fVar 2))) (fSeq (fApp (fVar 10) (fTup (fCons (fC (.str "one")) (fCons (fOp oIx (fVar 0) (fVar 6)) fNil)))) (fAsg (fOp (oAdd false) (fVar 6) (fC (.int 1))) (gNm 6))) fNext)) [11] 3 (wi (t : Nat)) [some (.d (.lst (natD row))), some (.d pd), some (wi (row.length : Nat)), some (.d (.lst (natD P))), some (.d (.lst (natD S))), none, some (wi (q.1 : Nat)), none, none, none, some (.m 2), none] [.dead, .dead, .lst (q.2.map tokD)] k = k [some (.d (.lst (natD row))), some (.d pd), some (wi (row.length : Nat)), some (.d (.lst (natD P))), some (.d (.lst (natD S))), none, some (wi ((wkF S row q).1 : Nat)), none, none, none, some (.m 2), none] [.dead, .dead, .lst ((wkF S row q).2.map tokD)] := by
    rintro t ⟨p, ts⟩ k hl
    dsimp only at hl ⊢
    unfold wkF
    dsimp only
    have l2 : (ts.map tokD).length = ts.length := List.length_map ..
    generalize natD P = PL
    by_cases hp : p < row.length
    · have c1 : ((p : Nat) : Int) < (row.length : Nat) := by omega
      have e1 : atI (natD S) (p : Int) = some (D.int (S.getD p 0 : Nat)) := natD_getD (by omega)
      have e2 : atI (natD row) (p : Int) = some (D.int (row.getD p 0 : Nat)) := natD_getD hp
      rw [if_pos hp]
      by_cases c : 0 < S.getD p 0
      · rw [if_pos c]
        have t1 := tok_snoc (l := ts) (q := (true, S.getD p 0))
        rw [show tokD (true, S.getD p 0) = .tup [.v (.str "again"), .int (S.getD p 0 : Nat)] from rfl] at t1
        have c' : (0 : Int) < (S.getD p 0 : Nat) := by omega
        have e3 : ((p : Nat) : Int) + (S.getD p 0 : Nat) = ((p + S.getD p 0 : Nat) : Int) := by omega
        dsimp only
        generalize (ts ++ [(true, S.getD p 0)]).map tokD = U at t1 ⊢
        generalize ts.map tokD = V at t1 l2 ⊢
        generalize p + S.getD p 0 = p' at e3 ⊢
        generalize S.getD p 0 = s at *
        generalize natD S = SL at e1 ⊢
        generalize natD row = RL at e2 l1 ⊢
        simp? [l2, c1, e1, c', t1, e3]
      · rw [if_neg c]
        have t1 := tok_snoc (l := ts) (q := (false, row.getD p 0))
        rw [show tokD (false, row.getD p 0) = .tup [.v (.str "one"), .int (row.getD p 0 : Nat)] from rfl] at t1
        have c' : ¬ (0 : Int) < (S.getD p 0 : Nat) := by omega
        have e3 : ((p : Nat) : Int) + 1 = ((p + 1 : Nat) : Int) := by omega
        dsimp only
        generalize (ts ++ [(false, row.getD p 0)]).map tokD = U at t1 ⊢
        generalize ts.map tokD = V at t1 l2 ⊢
        generalize p + 1 = p' at e3 ⊢
        generalize S.getD p 0 = s at *
        generalize row.getD p 0 = x at *
        generalize natD S = SL at e1 ⊢
        generalize natD row = RL at e2 l1 ⊢
        simp? [l2, c1, e1, e2, c', t1, e3]
    · have c1 : ¬ ((p : Nat) : Int) < (row.length : Nat) := by omega
      rw [if_neg hp]
      generalize ts.map tokD = V at l2 ⊢
      generalize natD S = SL
      generalize natD row = RL at l1 ⊢
      simp? [c1]
  have body : B_L_least [some (.d (.lst (natD row))), some (.d pd), none, none, none, none, none, none, none, none, none, none] [] = some (.rt (.d (.tup [.tup ((wkI S row row.length).2.map tokD), .int (z : Nat)])) [.dead, .dead, .dead]) := by
    unfold B_L_least
    refine (fseq_nx (ρ' := [some (.d (.lst (natD row))), some (.d pd), some (wi (row.length : Nat)), none, none, none, none, none, none, none, none, none]) (μ' := []) ?h1).trans ?n1
    case h1 => simp? [l1]
    unfold B_L_least_1
    refine (fseq_nx (ρ' := [some (.d (.lst (natD row))), some (.d pd), some (wi (row.length : Nat)), some (.m 0), none, none, none, none, none, none, none, none]) (μ' := [.lst (natD (List.replicate (row.length + 1) 0))]) ?h2).trans ?n2
    case h2 =>
      have e3 : ((row.length : Nat) : Int) + 1 = ((row.length + 1 : Nat) : Int) := by omega
      have b1 : (leI 0 ((row.length + 1 : Nat) : Int) && leI ((row.length + 1 : Nat) : Int) 1000000) = true := by rw [Bool.and_eq_true, leI_iff, leI_iff]; omega
      have b3 : row.length + 1 ≤ 1001 := by omega
      generalize row.length + 1 = N at e3 b1 b3 ⊢
      simp? [e3, b1, rep_nat, Int.toNat_natCast]
    unfold B_L_least_2
    refine (fseq_nx (ρ' := [some (.d (.lst (natD row))), some (.d pd), some (wi (row.length : Nat)), some (.m 0), some (.m 1), none, none, none, none, none, none, none]) (μ' := [.lst (natD (List.replicate (row.length + 1) 0)), .lst (natD (List.replicate row.length 0))]) ?h3).trans ?n3
    case h3 =>
      generalize natD (List.replicate (row.length + 1) 0) = P0
      simp? [b2, rep_nat, Int.toNat_natCast]
    unfold B_L_least_3
    refine (fseq_nx (ρ' := [some (.d (.lst (natD row))), some (.d pd), some (wi (row.length : Nat)), some (.m 0), some (.m 1), none, none, none, none, none, none, none]) (μ' := [.lst (natD P), .lst (natD S)]) ?h4).trans ?n4
    case h4 =>
      refine Eq.trans ?_ lp
      unfold llB
      generalize natD (List.replicate (row.length + 1) 0) = P0
      generalize natD (List.replicate row.length 0) = Q0
      unfold fFor
      rw [show iR1 (fCons (fVar 2) fNil) [some (.d (.lst (natD row))), some (.d pd), some (wi (row.length : Nat)), some (.m 0), some (.m 1), none, none, none, none, none, none, none] [.lst P0, .lst Q0] = some (.ok ((List.range' 0 row.length).map fun t : Nat => wi (t : Nat)) [.lst P0, .lst Q0]) from by
        rw [← List.range_eq_range', ← rints_nat]
        simp? [Int.toNat_natCast]]
      rfl
    unfold B_L_least_4
    refine Eq.trans (b := fSeq (fAsg (fLst true fNil) (gNm 10)) B_L_least_5 [some (.d (.lst (natD row))), some (.d pd), some (wi (row.length : Nat)), some (.d (.lst (natD P))), some (.d (.lst (natD S))), none, none, none, none, none, none, none] [.dead, .dead]) rfl ?_
    refine (fseq_nx (ρ' := [some (.d (.lst (natD row))), some (.d pd), some (wi (row.length : Nat)), some (.d (.lst (natD P))), some (.d (.lst (natD S))), none, none, none, none, none, some (.m 2), none]) (μ' := [.dead, .dead, .lst []]) ?h5).trans ?n5
    case h5 => simp? [eq_self]
    unfold B_L_least_5
    refine (fseq_nx (ρ' := [some (.d (.lst (natD row))), some (.d pd), some (wi (row.length : Nat)), some (.d (.lst (natD P))), some (.d (.lst (natD S))), none, some (wi 0), none, none, none, some (.m 2), none]) (μ' := [.dead, .dead, .lst []]) ?h6).trans ?n6
    case h6 => simp? [eq_self]
    unfold B_L_least_6
    refine (fseq_nx (ρ' := [some (.d (.lst (natD row))), some (.d pd), some (wi (row.length : Nat)), some (.d (.lst (natD P))), some (.d (.lst (natD S))), none, some (wi ((wkI S row row.length).1 : Nat)), none, none, none, some (.m 2), none]) (μ' := [.dead, .dead, .lst ((wkI S row row.length).2.map tokD)]) ?h7).trans ?n7
    case h7 =>
      rw [← wkI_fold]
      have lr := loop_range (g := gNm 11) (b := (fIf (fAnd (fTest (fOp (oI0 fun i j => .bl (decide (i < j))) (fVar 6) (fVar 2))) (fTest (fOp (oI0 fun i j => .bl (decide (j < i))) (fOp oIx (fVar 4) (fVar 6)) (fC (.int 0))))) (fSeq (fApp (fVar 10) (fTup (fCons (fC (.str "again")) (fCons (fOp oIx (fVar 4) (fVar 6)) fNil)))) (fAsg (fOp (oAdd false) (fVar 6) (fOp oIx (fVar 4) (fVar 6))) (gNm 6))) (fIf (fTest (fOp (oI0 fun i j => .bl (decide (i < j))) (fVar 6) (fVar 2))) (fSeq (fApp (fVar 10) (fTup (fCons (fC (.str "one")) (fCons (fOp oIx (fVar 0) (fVar 6)) fNil)))) (fAsg (fOp (oAdd false) (fVar 6) (fC (.int 1))) (gNm 6))) fNext))) (dead := [11]) (n := 3) (fun q : Nat × List (Bool × Nat) => ([some (.d (.lst (natD row))), some (.d pd), some (wi (row.length : Nat)), some (.d (.lst (natD P))), some (.d (.lst (natD S))), none, some (wi (q.1 : Nat)), none, none, none, some (.m 2), none], [.dead, .dead, .lst (q.2.map tokD)])) (fun t : Nat => wi (t : Nat)) (fun q _ => wkF S row q) (fun t q => q.2.length ≤ t) (m := row.length) (0, []) rfl (Nat.le_refl _) (fun t q ht hq => ⟨Nat.le_trans wkF_len (Nat.succ_le_succ hq), fun k => turn2 t q k (by omega)⟩)
      refine Eq.trans ?_ lr
      unfold fFor
      rw [show iR1 (fCons (fVar 2) fNil) [some (.d (.lst (natD row))), some (.d pd), some (wi (row.length : Nat)), some (.d (.lst (natD P))), some (.d (.lst (natD S))), none, some (wi 0), none, none, none, some (.m 2), none] [.dead, .dead, .lst []] = some (.ok ((List.range row.length).map fun t : Nat => wi (t : Nat)) [.dead, .dead, .lst []]) from by
        rw [← rints_nat]
        simp? [Int.toNat_natCast]]
      rfl
    unfold B_L_least_7
    have hl : ((wkI S row row.length).2.map tokD).length ≤ 1000 := by
      rw [List.length_map]
      have := wkI_len (S := S) (row := row) (t := row.length)
      omega
    generalize (wkI S row row.length).2.map tokD = L at hl ⊢
    generalize natD P = PL at pl ⊢
    simp? [pl]
  unfold F_L_least fRun
  rw [if_pos (show [W.d (.lst (natD row)), W.d pd].length = 2 from rfl)]
  show fin false 0 (B_L_least [some (.d (.lst (natD row))), some (.d pd), none, none, none, none, none, none, none, none, none, none] []) = _
  rw [body]
  rfl
theorem L_bits_of_eq (T : Tb rungs r) {ts : List (Bool × Nat)} (hx : ∀ q ∈ ts, (q.1 = false → q.2 < sS rungs rungs.length) ∧ (q.1 = true → r ≠ none)) : F_L_bits_of [.d (.lst (ts.map tokD)), .d (partD rungs r)] [] = some (.ok (wi (btN (szN rungs) (apN r) ts : Nat)) []) := by
  have main : ∀ {us : List (Bool × Nat)} {b : Nat} {o : D}, (∀ q ∈ us, q ∈ ts) → fLoop (gTp 2 (gCs (gNm 3) (gCs (gNm 4) gNl))) (fIf (fTest (fOp oEq (fVar 3) (fC (.str "one")))) (fAsg (fOp (oAdd false) (fVar 2) (fDef [false, false] F_L_size [] (fCons (fOp oIx (fVar 1) (fC (.int 0))) (fCons (fVar 4) fNil)))) (gNm 2)) (fAsg (fOp (oAdd false) (fOp (oAdd false) (fVar 2) (fOp oIx (fOp oIx (fVar 1) (fC (.int 1))) (fC (.int 0)))) (fOp oIx (fOp oIx (fVar 1) (fC (.int 1))) (fC (.int 1)))) (gNm 2))) [3, 4] 0 (us.map fun q => W.d (tokD q)) [some (.d o), some (.d (partD rungs r)), some (wi (b : Nat)), none, none] [] = some (.nx [some (.d o), some (.d (partD rungs r)), some (wi ((b + btN (szN rungs) (apN r) us : Nat) : Int)), none, none] []) := by
    intro us
    induction us with
    | nil => intro b o _; rfl
    | cons q us ih =>
      intro b o hu
      have ih := ih (b := b + (if q.1 = true then apN r else szN rungs q.2)) (o := o) (fun z hz => hu z (List.mem_cons_of_mem _ hz))
      obtain ⟨h1, h2⟩ := hx q (hu q List.mem_cons_self)
      rw [List.map_cons, fLoop, btN_cons, ← Nat.add_assoc]
      obtain ⟨f, x⟩ := q
      refine Eq.trans ?_ ih
      unfold tokD
      dsimp only
      cases f with
      | false =>
        have e2 := L_size_eq T (h1 rfl)
        have e3 : ((b : Nat) : Int) + (szN rungs x : Nat) = ((b + szN rungs x : Nat) : Int) := by omega
        simp only [Bool.false_eq_true, if_false]
        unfold partD
        generalize rungs.map prD = P at e2 ⊢
        simp? [e2, e3]
      | true =>
        cases r with
        | none => exact absurd rfl (h2 rfl)
        | some z =>
          have e3 : (((b : Nat) : Int) + (z.1 : Nat)) + (z.2 : Nat) = ((b + apN (some z) : Nat) : Int) := by
            show _ = ((b + (z.1 + z.2) : Nat) : Int)
            omega
          simp only [if_true]
          unfold partD repD prD
          generalize (rungs.map fun q => D.tup [.int (q.1 : Nat), .int (q.2 : Nat)]) = PR
          simp? [e3]
  have key := main (us := ts) (b := 0) (o := .lst (ts.map tokD)) (fun q h => h)
  rw [Nat.zero_add, Int.natCast_zero] at key
  have it : (ts.map tokD).map (item false) = ts.map fun q => W.d (tokD q) := by
    rw [List.map_map]
    rfl
  unfold F_L_bits_of B_L_bits_of
  generalize btN (szN rungs) (apN r) ts = R at key ⊢
  generalize partD rungs r = pd at key ⊢
  simp? [it]
  rw [key]
  simp? [eq_self]
end
/-! ### ties, as the law asks -/
theorem pn_tok {q : Bool × Nat} : pn 1 (tokD q) := by
  have h1 : PySem.PyData.strOk (Str.ofString "again") = true := by decide +kernel
  have h2 : PySem.PyData.strOk (Str.ofString "one") = true := by decide +kernel
  obtain ⟨f, x⟩ := q
  unfold tokD
  cases f
  · simp [pn, h2]
  · simp [pn, h1]
theorem tokD_inj {a b : Bool × Nat} : tokD a = tokD b ↔ a = b := by
  obtain ⟨f, x⟩ := a
  obtain ⟨g, y⟩ := b
  constructor
  · intro h
    unfold tokD at h
    injection h with h
    injection h with h1 h2
    injection h2 with h2 _
    have e2 : x = y := by
      injection h2 with h2
      injection h2 with h2
      exact Int.ofNat.inj h2
    have e1 : f = g := by
      injection h1 with h1
      injection h1 with h1
      have ne : (Str.ofString "again") ≠ Str.ofString "one" := by decide +kernel
      cases f <;> cases g <;> first | rfl | (exfalso; simp at h1; done) | (exfalso; exact ne h1) | (exfalso; exact ne h1.symm)
    rw [e1, e2]
  · rintro h
    rw [h]
theorem at_tok {l : List (Bool × Nat)} {k : Nat} {q : Bool × Nat} (h : l[k]? = some q) : atI (l.map tokD) (k : Int) = some (tokD q) := at_get (by rw [List.getElem?_map, h]; rfl)
def wnB : FSt := (fIf (fTest (fOp oNeD (fOp oIx (fVar 0) (fVar 2)) (fOp oIx (fVar 1) (fVar 2)))) (fSeq (fAsg (fLst true (fCons (fC (.int 1)) (fCons (fC (.int 1)) fNil))) (gNm 3)) (fSeq (fIf (fTest (fOp oEq (fOp oIx (fOp oIx (fVar 0) (fVar 2)) (fC (.int 0))) (fC (.str "again")))) (fSet (fVar 3) (fC (.int 0)) (fOp oIx (fOp oIx (fVar 0) (fVar 2)) (fC (.int 1)))) fNext) (fSeq (fIf (fTest (fOp oEq (fOp oIx (fOp oIx (fVar 1) (fVar 2)) (fC (.int 0))) (fC (.str "again")))) (fSet (fVar 3) (fC (.int 1)) (fOp oIx (fOp oIx (fVar 1) (fVar 2)) (fC (.int 1)))) fNext) (fFrz 3 (fRet (fOrV (fOp (oI0 fun i j => .bl (decide (j < i))) (fOp oIx (fVar 3) (fC (.int 0))) (fOp oIx (fVar 3) (fC (.int 1)))) (fAndV (fOp oEq (fOp oIx (fVar 3) (fC (.int 0))) (fOp oIx (fVar 3) (fC (.int 1)))) (fOp oEq (fOp oIx (fOp oIx (fVar 0) (fVar 2)) (fC (.int 0))) (fC (.str "one")))))))))) fNext)
theorem wn_same {ts us : List (Bool × Nat)} {k : Nat} {t : Bool × Nat} (h1 : ts[k]? = some t) (h2 : us[k]? = some t) (kk : Rho → Mu → Option So) : turn (gNm 2) wnB [2, 3] 0 (wi (k : Nat)) [some (.d (.tup (ts.map tokD))), some (.d (.lst (us.map tokD))), none, none] [] kk = kk [some (.d (.tup (ts.map tokD))), some (.d (.lst (us.map tokD))), none, none] [] := by
  have a1 := at_tok h1
  have a2 := at_tok h2
  have e : ∀ μ, oNeD (.d (tokD t)) (.d (tokD t)) μ = some (.ok (wb (!eqB (tokD t) (tokD t))) μ) := fun μ => oNeD_pn pn_tok pn_tok (by decide) (by decide)
  rw [eqB_self] at e
  generalize ts.map tokD = A at a1 ⊢
  generalize us.map tokD = B at a2 ⊢
  generalize tokD t = d at a1 a2 e
  unfold wnB
  simp? [a1, a2, e]
theorem wn_diff {ts us : List (Bool × Nat)} {k : Nat} {t u : Bool × Nat} (h1 : ts[k]? = some t) (h2 : us[k]? = some u) (hne : t ≠ u) (hb : Bet t u) (kk : Rho → Mu → Option So) : turn (gNm 2) wnB [2, 3] 0 (wi (k : Nat)) [some (.d (.tup (ts.map tokD))), some (.d (.lst (us.map tokD))), none, none] [] kk = some (.rt (wb true) [.dead]) := by
  have a1 := at_tok h1
  have a2 := at_tok h2
  have e : ∀ μ, oNeD (.d (tokD t)) (.d (tokD u)) μ = some (.ok (wb (!eqB (tokD t) (tokD u))) μ) := fun μ => oNeD_pn pn_tok pn_tok (by decide) (by decide)
  have e0 : eqB (tokD t) (tokD u) = false := by
    rw [← Bool.not_eq_true, eqB_iff, tokD_inj]
    exact hne
  rw [e0] at e
  generalize ts.map tokD = A at a1 ⊢
  generalize us.map tokD = B at a2 ⊢
  obtain ⟨f, x⟩ := t
  obtain ⟨g, y⟩ := u
  unfold tokD at a1 a2 e
  unfold wnB
  rcases hb with hb | ⟨hb, hf⟩
  · cases f with
    | false =>
      cases g with
      | false => exact absurd hb (Nat.lt_irrefl _)
      | true =>
        have c : ((y : Nat) : Int) < 1 := by
          have : y < 1 := hb
          omega
        simp only [Bool.false_eq_true, if_false, if_true] at a1 a2 e
        simp? [a1, a2, e, c]
    | true =>
      cases g with
      | false =>
        have c : (1 : Int) < (x : Nat) := by
          have : 1 < x := hb
          omega
        simp only [Bool.false_eq_true, if_false, if_true] at a1 a2 e
        simp? [a1, a2, e, c]
      | true =>
        have c : ((y : Nat) : Int) < (x : Nat) := by
          have : y < x := hb
          omega
        simp only [Bool.false_eq_true, if_false, if_true] at a1 a2 e
        simp? [a1, a2, e, c]
  · have hf : f = false := hf
    subst hf
    cases g with
    | false =>
      have c : ¬ (1 : Int) < 1 := by decide
      simp only [Bool.false_eq_true, if_false, if_true] at a1 a2 e
      simp? [a1, a2, e, c]
    | true =>
      have c : y = 1 := by
        have : 1 = y := hb
        omega
      have c1 : ¬ ((y : Nat) : Int) < 1 := by omega
      have c2 : ((1 : Int) = ((y : Nat) : Int)) = True := eq_true (by omega)
      simp only [Bool.false_eq_true, if_false, if_true] at a1 a2 e
      simp? [a1, a2, e, c1, c2]
theorem fseq_rt {a b : FSt} {ρ : Rho} {μ μ' : Mu} {w : W} (h : a ρ μ = some (.rt w μ')) : fSeq a b ρ μ = some (.rt w μ') := by
  unfold fSeq
  rw [h]
  rfl
theorem L_wins_eq {ts us : List (Bool × Nat)} (h : Win ts us) (h1 : ts.length ≤ 1000) (h2 : us.length ≤ 1000) : F_L_wins [.d (.tup (ts.map tokD)), .d (.lst (us.map tokD))] [] = some (.ok (wb true) []) := by
  have e9 : (if ((us.length : Nat) : Int) < ((ts.length : Nat) : Int) then ((us.length : Nat) : Int) else ((ts.length : Nat) : Int)) = ((min ts.length us.length : Nat) : Int) := by
    split <;> omega
  have body : ∃ μ', B_L_wins [some (.d (.tup (ts.map tokD))), some (.d (.lst (us.map tokD))), none, none] [] = some (.rt (wb true) μ') ∧ (μ' = [] ∨ μ' = [.dead]) := by
    have it : iR1 (fCons (fCB cMin2 (fCons (fCB cLen (fCons (fVar 0) fNil)) (fCons (fCB cLen (fCons (fVar 1) fNil)) fNil))) fNil) [some (.d (.tup (ts.map tokD))), some (.d (.lst (us.map tokD))), none, none] [] = some (.ok ((List.range (min ts.length us.length)).map fun i : Nat => wi (i : Nat)) []) := by
      rw [← rints_nat]
      have hm : min ts.length us.length ≤ 1000 := by omega
      simp? [List.length_map, e9, Int.toNat_natCast]
    unfold B_L_wins
    rcases win_ways h with rfl | ⟨k, t, u, a1, a2, a3, a4, a5⟩
    · refine ⟨[], ?_, .inl rfl⟩
      refine (fseq_nx (ρ' := [some (.d (.tup (ts.map tokD))), some (.d (.lst (ts.map tokD))), none, none]) (μ' := []) ?h1).trans ?n1
      case h1 =>
        unfold fFor
        rw [it]
        refine loop_same fun z hz k => ?_
        obtain ⟨i, hi, rfl⟩ := List.mem_map.mp hz
        have hi := List.mem_range.mp hi
        have hi : i < ts.length := by omega
        exact wn_same (t := ts[i]) (List.getElem?_eq_getElem hi) (List.getElem?_eq_getElem hi) k
      simp? [List.length_map]
    · refine ⟨[.dead], ?_, .inr rfl⟩
      have k1 := (List.getElem?_eq_some_iff.mp a1).1
      have k2 := (List.getElem?_eq_some_iff.mp a2).1
      have lp : fFor (iR1 (fCons (fCB cMin2 (fCons (fCB cLen (fCons (fVar 0) fNil)) (fCons (fCB cLen (fCons (fVar 1) fNil)) fNil))) fNil)) (gNm 2) wnB [2, 3] [some (.d (.tup (ts.map tokD))), some (.d (.lst (us.map tokD))), none, none] [] = some (.rt (wb true) [.dead]) := by
        unfold fFor
        rw [it]
        refine loop_exit (fun _ => ([some (.d (.tup (ts.map tokD))), some (.d (.lst (us.map tokD))), none, none], [])) (j := 0) (m := k) (by rw [List.length_map, List.length_range]; omega) (fun i z hi hz kk => ?_) (fun z hz kk => ?_)
        · rw [List.getElem?_map, List.getElem?_range (by omega)] at hz
          cases hz
          have e1 : ts[i]? = some ts[i] := List.getElem?_eq_getElem (by omega)
          exact wn_same e1 ((a5 i hi).symm.trans e1) kk
        · rw [List.getElem?_map, List.getElem?_range (by omega)] at hz
          cases hz
          exact wn_diff a1 a2 a3 a4 kk
      exact fseq_rt lp
  obtain ⟨μ', body, hμ⟩ := body
  unfold F_L_wins fRun
  rw [if_pos (show [W.d (.tup (ts.map tokD)), W.d (.lst (us.map tokD))].length = 2 from rfl)]
  show fin false 0 (B_L_wins [some (.d (.tup (ts.map tokD))), some (.d (.lst (us.map tokD))), none, none] []) = _
  rw [body]
  rcases hμ with rfl | rfl <;> rfl
/-! ### what is drawn -/
theorem L_run_row_eq {s : DS} {lim : Nat} (h1 : 1 ≤ lim) (h2 : lim ≤ 10000000) : ∃ (s' : DS) (row : List Nat), row.length ≤ 64 ∧ (∀ x ∈ row, x < lim) ∧ F_L_run_row [.m 0, wi (lim : Nat)] [.lst s.l] = some (.ok (.d (.lst (natD row))) [.lst s'.l]) := by
  obtain ⟨p, hp, p1, p2⟩ := pick_of (s := s) (l := [25, 25, 25, 25, 25, 25, 25, 65]) (P := fun x => 1 ≤ x ∧ x ≤ 65) (by simp) (by decide)
  have x1 : F_L_pick [.m 0, .d (.lst [D.v (V.int 25), D.v (V.int 25), D.v (V.int 25), D.v (V.int 25), D.v (V.int 25), D.v (V.int 25), D.v (V.int 25), D.v (V.int 65)])] [.lst s.l] = some (.ok (.d (pickV s [D.v (V.int 25), D.v (V.int 25), D.v (V.int 25), D.v (V.int 25), D.v (V.int 25), D.v (V.int 25), D.v (V.int 25), D.v (V.int 65)])) [.lst (drawS s 8).l]) := F_L_pick_eq (s := s) (by simp) (by simp)
  rw [show pickV s [D.v (V.int 25), D.v (V.int 25), D.v (V.int 25), D.v (V.int 25), D.v (V.int 25), D.v (V.int 25), D.v (V.int 25), D.v (V.int 65)] = .int p from hp] at x1
  generalize drawS s 8 = s1 at x1
  have d2 := drawV_lt (s := s1) (m := p) p1
  have x2 := F_L_draw_eq (s := s1) (m := p) p1 (by omega)
  generalize drawS s1 p = s2 at x2
  obtain ⟨many, hm⟩ := Int.eq_ofNat_of_zero_le d2.1
  rw [hm] at x2 d2
  let f : DS × List Nat × Nat → Nat → DS × List Nat × Nat := fun q _ => if drawV q.1 3 = 0 then (drawS (drawS q.1 3) lim, q.2.1 ++ [(drawV (drawS q.1 3) lim).toNat], (drawV (drawS q.1 3) lim).toNat) else (drawS q.1 3, q.2.1 ++ [q.2.2], q.2.2)
  have step : ∀ (i : Nat) (q : DS × List Nat × Nat), (q.2.1.length = i ∧ (∀ x ∈ q.2.1, x < lim) ∧ q.2.2 < lim) → ((f q i).2.1.length = i + 1 ∧ (∀ x ∈ (f q i).2.1, x < lim) ∧ (f q i).2.2 < lim) := by
    rintro i ⟨s, row, b⟩ ⟨a1, a2, a3⟩
    dsimp only at a1 a2 a3
    have d := drawV_lt (s := drawS s 3) (m := (lim : Nat)) (by omega)
    show ((if _ then _ else _ : DS × List Nat × Nat).2.1.length = _ ∧ _)
    dsimp only [f]
    split
    · refine ⟨by simp [a1], fun x hx => ?_, by dsimp only; omega⟩
      rcases List.mem_append.mp hx with hx | hx
      · exact a2 x hx
      · rw [List.mem_singleton] at hx
        omega
    · refine ⟨by simp [a1], fun x hx => ?_, a3⟩
      rcases List.mem_append.mp hx with hx | hx
      · exact a2 x hx
      · rw [List.mem_singleton] at hx
        subst hx
        exact a3
  have inv := range_inv (f := f) (fun i (q : DS × List Nat × Nat) => q.2.1.length = i ∧ (∀ x ∈ q.2.1, x < lim) ∧ q.2.2 < lim) (a := (s2, [], 0)) (m := many) ⟨rfl, (fun x hx => by cases hx), h1⟩ (fun i q hi h => step i q h)
  have lr := loop_range (g := gNm 5) (b := (fSeq (fIf (fTest (fOp oEq (fDef [true, false] FRL.F_L_draw [] (fCons (fVar 0) (fCons (fC (.int 3)) fNil))) (fC (.int 0)))) (fAsg (fDef [true, false] FRL.F_L_draw [] (fCons (fVar 0) (fCons (fVar 1) fNil))) (gNm 4)) fNext) (fApp (fVar 3) (fVar 4)))) (dead := [5]) (n := 2) (fun q : DS × List Nat × Nat => ([some (.m 0), some (wi (lim : Nat)), some (wi (many : Nat)), some (.m 1), some (wi (q.2.2 : Nat)), none], [.lst q.1.l, .lst (natD q.2.1)])) (fun t : Nat => wi (t : Nat)) f (fun i (q : DS × List Nat × Nat) => q.2.1.length = i ∧ (∀ x ∈ q.2.1, x < lim) ∧ q.2.2 < lim) (m := many) (s2, [], 0) rfl ⟨rfl, (fun x hx => by cases hx), h1⟩ (fun i q hi h => ⟨step i q h, fun k => by
    obtain ⟨s, row, b⟩ := q
    obtain ⟨a1, _, _⟩ := h
    dsimp only at a1
    have y1 := F_L_draw_eq (s := s) (m := 3) (by omega) (by omega)
    have y2 := F_L_draw_eq (s := drawS s 3) (m := (lim : Nat)) (by omega) (by omega)
    have d := drawV_lt (s := drawS s 3) (m := (lim : Nat)) (by omega)
    obtain ⟨j, hj⟩ := Int.eq_ofNat_of_zero_le d.1
    have l1 : (natD row).length = row.length := natD_len
    dsimp only [f]
    by_cases c : drawV s 3 = 0
    · rw [if_pos c, hj, Int.toNat_natCast]
      rw [c] at y1
      rw [hj] at y2
      dsimp only
      have e : natD row ++ [D.v (V.int (j : Nat))] = natD (row ++ [j]) := by rw [natD_app]; rfl
      generalize natD (row ++ [j]) = R2 at e ⊢
      generalize natD row = R1 at e l1 ⊢
      simp? [y1, y2, e, l1]
    · rw [if_neg c]
      dsimp only
      have c' : (drawV s 3 = 0) = False := eq_false c
      have e : natD row ++ [D.v (V.int (b : Nat))] = natD (row ++ [b]) := by rw [natD_app]; rfl
      generalize natD (row ++ [b]) = R2 at e ⊢
      generalize natD row = R1 at e l1 ⊢
      simp? [y1, c', e, l1]⟩)
  obtain ⟨i1, i2, i3⟩ := inv
  generalize (List.range many).foldl f (s2, [], 0) = q at i1 i2 i3 lr
  obtain ⟨s3, row, b⟩ := q
  dsimp only at i1 i2 i3 lr
  refine ⟨s3, row, by omega, i2, ?_⟩
  have l1 : (natD row).length = row.length := natD_len
  have body : B_L_run_row [some (.m 0), some (wi (lim : Nat)), none, none, none, none] [.lst s.l] = some (.rt (.d (.lst (natD row))) [.lst s3.l, .dead]) := by
    unfold B_L_run_row
    refine (fseq_nx (ρ' := [some (.m 0), some (wi (lim : Nat)), some (wi (many : Nat)), none, none, none]) (μ' := [.lst s2.l]) ?h1).trans ?n1
    case h1 => simp? [x1, x2]
    unfold B_L_run_row_1
    refine (fseq_nx (ρ' := [some (.m 0), some (wi (lim : Nat)), some (wi (many : Nat)), some (.m 1), none, none]) (μ' := [.lst s2.l, .lst []]) ?h2).trans ?n2
    case h2 => simp? [eq_self]
    unfold B_L_run_row_2
    refine (fseq_nx (ρ' := [some (.m 0), some (wi (lim : Nat)), some (wi (many : Nat)), some (.m 1), some (wi 0), none]) (μ' := [.lst s2.l, .lst []]) ?h3).trans ?n3
    case h3 => simp? [eq_self]
    unfold B_L_run_row_3
    refine (fseq_nx (ρ' := [some (.m 0), some (wi (lim : Nat)), some (wi (many : Nat)), some (.m 1), some (wi (b : Nat)), none]) (μ' := [.lst s3.l, .lst (natD row)]) ?h4).trans ?n4
    case h4 =>
      refine Eq.trans ?_ lr
      unfold fFor
      rw [show iR1 (fCons (fVar 2) fNil) [some (.m 0), some (wi (lim : Nat)), some (wi (many : Nat)), some (.m 1), some (wi 0), none] [.lst s2.l, .lst []] = some (.ok ((List.range many).map fun t : Nat => wi (t : Nat)) [.lst s2.l, .lst []]) from by
        rw [← rints_nat]
        simp? [Int.toNat_natCast]]
      rfl
    unfold B_L_run_row_4
    rfl
  unfold F_L_run_row fRun
  rw [if_pos (show [W.m 0, wi (lim : Nat)].length = 2 from rfl)]
  show fin false 1 (B_L_run_row [some (.m 0), some (wi (lim : Nat)), none, none, none, none] [.lst s.l]) = _
  rw [body]
  rfl
/-! ### tokens drawn -/
section
variable {rungs : List (Nat × Nat)} {r : Option (Nat × Nat)}
def stR (rungs : List (Nat × Nat)) (r : Option (Nat × Nat)) (row : List Nat) (p : Nat) : Rho := [some (.m 0), some (.d (.lst (natD row))), some (.d (partD rungs r)), some (.m 1), some (wi (p : Nat)), some (wi (bfN row p : Nat)), none, none, none, none]
def st4 : FSt := (fIf (fAnd (fTest (fOp oNotN (fOp oIx (fVar 2) (fC (.int 1))) (fC .non))) (fAnd (fTest (fOp (oI0 fun i j => .bl (decide (j < i))) (fVar 7) (fC (.int 0)))) (fTest (fOp oEq (fDef [true, false] FRL.F_L_draw [] (fCons (fVar 0) (fCons (fC (.int 2)) fNil))) (fC (.int 0)))))) (fSeq (fAsg (fOp (oAdd false) (fC (.int 1)) (fDef [true, false] FRL.F_L_draw [] (fCons (fVar 0) (fCons (fVar 7) fNil)))) (gNm 9)) (fSeq (fApp (fVar 3) (fTup (fCons (fC (.str "again")) (fCons (fVar 9) fNil)))) (fAsg (fOp (oAdd false) (fVar 4) (fVar 9)) (gNm 4)))) (fSeq (fAsg (fOp oIx (fVar 1) (fVar 4)) (gNm 5)) (fSeq (fApp (fVar 3) (fTup (fCons (fC (.str "one")) (fCons (fVar 5) fNil)))) (fAsg (fOp (oAdd false) (fVar 4) (fC (.int 1))) (gNm 4)))))
def st3 : FSt := (fIf (fTest (fOp oNotN (fOp oIx (fVar 2) (fC (.int 1))) (fC .non))) (fAsg (fCB cMin2 (fCons (fVar 7) (fCons (fOp oShl (fC (.int 1)) (fOp oIx (fOp oIx (fVar 2) (fC (.int 1))) (fC (.int 1)))) fNil))) (gNm 7)) fNext)
def st2 : FSt := (fFor (iFix (fSl false (fVar 1) (fPart (fVar 4)) fNoPart)) (gNm 8) (fSeq (fIf (fTest (fOp oNe (fVar 8) (fVar 5))) fBreak fNext) (fAsg (fOp (oAdd false) (fVar 7) (fC (.int 1))) (gNm 7))) [8])
def stB : FSt := (fIf (fTest (fOp (oI0 fun i j => .bl (decide (i < j))) (fVar 4) (fCB cLen (fCons (fVar 1) fNil)))) (fSeq (fAsg (fC (.int 0)) (gNm 7)) (fSeq st2 (fSeq st3 st4))) fNext)
theorem st2_run {row : List Nat} {p t : Nat} {s : DS} {ds : List D} {pd : D} (hp : p ≤ row.length) (hn : row.length ≤ 1000) : ∃ a8, st2 [some (.m 0), some (.d (.lst (natD row))), some (.d pd), some (.m 1), some (wi (p : Nat)), some (wi (bfN row p : Nat)), some (wi (t : Nat)), some (wi 0), none, none] [.lst s.l, .lst ds] = some (.nx [some (.m 0), some (.d (.lst (natD row))), some (.d pd), some (.m 1), some (wi (p : Nat)), some (wi (bfN row p : Nat)), some (wi (t : Nat)), some (wi (runL (bfN row p) (row.drop p) : Nat)), a8, none] [.lst s.l, .lst ds]) := by
  have e2 : cutD (natD row) (some ((p : Nat) : Int)) none = natD (row.drop p) := natD_from hp
  have l2 : (natD (row.drop p)).map (item false) = (row.drop p).map fun x : Nat => wi (x : Nat) := natD_items
  have l1 : (natD row).length ≤ 1000 := by rw [natD_len]; exact hn
  generalize hb : bfN row p = b
  obtain ⟨ρ', a1, a2⟩ := run_loop (g := gNm 8) (B := (fSeq (fIf (fTest (fOp oNe (fVar 8) (fVar 5))) fBreak fNext) (fAsg (fOp (oAdd false) (fVar 7) (fC (.int 1))) (gNm 7)))) (dead := [8]) (n := 2) (st := fun j => ([some (.m 0), some (.d (.lst (natD row))), some (.d pd), some (.m 1), some (wi (p : Nat)), some (wi (b : Nat)), some (wi (t : Nat)), some (wi (j : Nat)), none, none], [.lst s.l, .lst ds])) (b := b) (ρe := fun j x => [some (.m 0), some (.d (.lst (natD row))), some (.d pd), some (.m 1), some (wi (p : Nat)), some (wi (b : Nat)), some (wi (t : Nat)), some (wi (j : Nat)), some (wi (x : Nat)), none]) (xs := row.drop p) (j := 0) (fun j x k => by
    by_cases c : x = b
    · have c' : (((x : Nat) : Int) = ((b : Nat) : Int)) = True := eq_true (by omega)
      have e : ((j : Nat) : Int) + 1 = ((j + 1 : Nat) : Int) := by omega
      rw [if_pos c]
      simp? [c', e]
    · have c' : (((x : Nat) : Int) = ((b : Nat) : Int)) = False := eq_false (by omega)
      rw [if_neg c]
      simp? [c', fBreak])
  rw [Nat.zero_add] at a1 a2
  have main : st2 [some (.m 0), some (.d (.lst (natD row))), some (.d pd), some (.m 1), some (wi (p : Nat)), some (wi (b : Nat)), some (wi (t : Nat)), some (wi 0), none, none] [.lst s.l, .lst ds] = some (.nx ρ' [.lst s.l, .lst ds]) := by
    refine Eq.trans ?_ a2
    unfold st2
    simp? [e2, l2]
  rcases a1 with rfl | ⟨x, rfl⟩
  · exact ⟨_, main⟩
  · exact ⟨_, main⟩
theorem st_else {row : List Nat} {p t c : Nat} {s s' : DS} {ts : List (Bool × Nat)} {pd : D} {a8 : Option W} (hp : p < row.length) (hl : ts.length ≤ 1000)
    (hc : (fAnd (fTest (fOp oNotN (fOp oIx (fVar 2) (fC (.int 1))) (fC .non))) (fAnd (fTest (fOp (oI0 fun i j => .bl (decide (j < i))) (fVar 7) (fC (.int 0)))) (fTest (fOp oEq (fDef [true, false] FRL.F_L_draw [] (fCons (fVar 0) (fCons (fC (.int 2)) fNil))) (fC (.int 0)))))) [some (.m 0), some (.d (.lst (natD row))), some (.d pd), some (.m 1), some (wi (p : Nat)), some (wi (bfN row p : Nat)), some (wi (t : Nat)), some (wi (c : Nat)), a8, none] [.lst s.l, .lst (ts.map tokD)] = some (.ok false [.lst s'.l, .lst (ts.map tokD)])) :
    st4 [some (.m 0), some (.d (.lst (natD row))), some (.d pd), some (.m 1), some (wi (p : Nat)), some (wi (bfN row p : Nat)), some (wi (t : Nat)), some (wi (c : Nat)), a8, none] [.lst s.l, .lst (ts.map tokD)] = some (.nx [some (.m 0), some (.d (.lst (natD row))), some (.d pd), some (.m 1), some (wi ((p + 1 : Nat) : Int)), some (wi (bfN row (p + 1) : Nat)), some (wi (t : Nat)), some (wi (c : Nat)), a8, none] [.lst s'.l, .lst ((ts ++ [(false, row.getD p 0)]).map tokD)]) := by
  have e2 : atI (natD row) (p : Int) = some (D.int (row.getD p 0 : Nat)) := natD_getD hp
  have eb : bfN row (p + 1) = row.getD p 0 := rfl
  have t1 := tok_snoc (l := ts) (q := (false, row.getD p 0))
  rw [show tokD (false, row.getD p 0) = .tup [.v (.str "one"), .int (row.getD p 0 : Nat)] from rfl] at t1
  have l2 : (ts.map tokD).length = ts.length := List.length_map ..
  have e3 : ((p : Nat) : Int) + 1 = ((p + 1 : Nat) : Int) := by omega
  unfold st4
  unfold fIf
  rw [hc]
  rw [eb]
  generalize (ts ++ [(false, row.getD p 0)]).map tokD = U at t1 ⊢
  generalize ts.map tokD = V at t1 l2 ⊢
  generalize p + 1 = p' at e3 ⊢
  generalize row.getD p 0 = x at *
  generalize natD row = RL at e2 ⊢
  simp? [l2, e2, t1, e3]
theorem st_turn (T : Tb rungs r) {row : List Nat} (hn : row.length ≤ 1000) {s : DS} {ts : List (Bool × Nat)} {p : Nat} (hp : p < row.length) (hl : ts.length ≤ 1000) : ∃ (s' : DS) (q : Bool × Nat) (p' : Nat), p < p' ∧ p' ≤ row.length ∧ (∀ ts2, Par (mrN r) (bfN row p') ts2 (row.drop p') → Par (mrN r) (bfN row p) (q :: ts2) (row.drop p)) ∧ ∀ (t : Nat) (k : Rho → Mu → Option So), turn (gNm 6) stB [6, 7, 8, 9] 2 (wi (t : Nat)) (stR rungs r row p) [.lst s.l, .lst (ts.map tokD)] k = k (stR rungs r row p') [.lst s'.l, .lst ((ts ++ [q]).map tokD)] := by
  have hd : row.drop p = row[p] :: row.drop (p + 1) := List.drop_eq_getElem_cons hp
  have c0 : ((p : Nat) : Int) < (row.length : Nat) := by omega
  have l1 : (natD row).length = row.length := natD_len
  -- what a turn is
  have go : ∀ (s' : DS) (q : Bool × Nat) (p' c : Nat) (a9 : Option W), (∀ (t : Nat) (a8 : Option W), ∃ ρ3, st3 [some (.m 0), some (.d (.lst (natD row))), some (.d (partD rungs r)), some (.m 1), some (wi (p : Nat)), some (wi (bfN row p : Nat)), some (wi (t : Nat)), some (wi (runL (bfN row p) (row.drop p) : Nat)), a8, none] [.lst s.l, .lst (ts.map tokD)] = some (.nx ρ3 [.lst s.l, .lst (ts.map tokD)]) ∧ st4 ρ3 [.lst s.l, .lst (ts.map tokD)] = some (.nx [some (.m 0), some (.d (.lst (natD row))), some (.d (partD rungs r)), some (.m 1), some (wi (p' : Nat)), some (wi (bfN row p' : Nat)), some (wi (t : Nat)), some (wi (c : Nat)), a8, a9] [.lst s'.l, .lst ((ts ++ [q]).map tokD)])) → ∀ (t : Nat) (k : Rho → Mu → Option So), turn (gNm 6) stB [6, 7, 8, 9] 2 (wi (t : Nat)) (stR rungs r row p) [.lst s.l, .lst (ts.map tokD)] k = k (stR rungs r row p') [.lst s'.l, .lst ((ts ++ [q]).map tokD)] := by
    intro s' q p' c a9 h t k
    obtain ⟨a8, e2⟩ := st2_run (row := row) (p := p) (t := t) (s := s) (ds := ts.map tokD) (pd := partD rungs r) (Nat.le_of_lt hp) hn
    obtain ⟨ρ3, e3, e4⟩ := h t a8
    have body : stB [some (.m 0), some (.d (.lst (natD row))), some (.d (partD rungs r)), some (.m 1), some (wi (p : Nat)), some (wi (bfN row p : Nat)), some (wi (t : Nat)), none, none, none] [.lst s.l, .lst (ts.map tokD)] = some (.nx [some (.m 0), some (.d (.lst (natD row))), some (.d (partD rungs r)), some (.m 1), some (wi (p' : Nat)), some (wi (bfN row p' : Nat)), some (wi (t : Nat)), some (wi (c : Nat)), a8, a9] [.lst s'.l, .lst ((ts ++ [q]).map tokD)]) := by
      unfold stB
      refine (if_yes ?h0).trans ((fseq_nx (ρ' := [some (.m 0), some (.d (.lst (natD row))), some (.d (partD rungs r)), some (.m 1), some (wi (p : Nat)), some (wi (bfN row p : Nat)), some (wi (t : Nat)), some (wi 0), none, none]) (μ' := [.lst s.l, .lst (ts.map tokD)]) ?h1).trans ((fseq_nx e2).trans ((fseq_nx e3).trans e4)))
      case h0 =>
        generalize partD rungs r = pd
        generalize natD row = RL at l1 ⊢
        simp? [l1, c0]
      case h1 =>
        generalize partD rungs r = pd
        generalize natD row = RL
        simp? [eq_self]
    show lt [6, 7, 8, 9] 2 (stB [some (.m 0), some (.d (.lst (natD row))), some (.d (partD rungs r)), some (.m 1), some (wi (p : Nat)), some (wi (bfN row p : Nat)), some (wi (t : Nat)), none, none, none] [.lst s.l, .lst (ts.map tokD)]) k = _
    rw [body]
    rfl
  have one : ∀ ts2, Par (mrN r) (bfN row (p + 1)) ts2 (row.drop (p + 1)) → Par (mrN r) (bfN row p) ((false, row.getD p 0) :: ts2) (row.drop p) := by
    intro ts2 h
    rw [bef_nx hd] at h
    exact ⟨row.drop (p + 1), by rw [hd, getD_eq hp], by rw [getD_eq hp]; exact h⟩
  cases r with
  | none =>
    refine ⟨s, (false, row.getD p 0), p + 1, by omega, by omega, one, go s (false, row.getD p 0) (p + 1) (runL (bfN row p) (row.drop p)) none fun t a8 => ⟨_, ?_, st_else (s' := s) (c := runL (bfN row p) (row.drop p)) hp hl ?_⟩⟩
    · unfold st3 partD repD
      generalize natD row = RL
      simp? [eq_self]
    · unfold partD repD
      generalize natD row = RL
      simp? [eq_self]
  | some z =>
    have hw := T.rw z rfl
    have e8 := shl_one (k := z.2)
    have hP : mrN (some z) = 2 ^ z.2 := rfl
    rw [← hP] at e8
    have e9 : (if ((mrN (some z) : Nat) : Int) < ((runL (bfN row p) (row.drop p) : Nat) : Int) then ((mrN (some z) : Nat) : Int) else ((runL (bfN row p) (row.drop p) : Nat) : Int)) = ((min (runL (bfN row p) (row.drop p)) (mrN (some z)) : Nat) : Int) := by
      split <;> omega
    have hc1 : min (runL (bfN row p) (row.drop p)) (mrN (some z)) ≤ runL (bfN row p) (row.drop p) := Nat.min_le_left _ _
    have hc2 : min (runL (bfN row p) (row.drop p)) (mrN (some z)) ≤ mrN (some z) := Nat.min_le_right _ _
    have hrl := runL_le (b := bfN row p) (xs := row.drop p)
    rw [List.length_drop] at hrl
    have s3 : ∀ (t : Nat) (a8 : Option W) (μ : Mu), st3 [some (.m 0), some (.d (.lst (natD row))), some (.d (partD rungs (some z))), some (.m 1), some (wi (p : Nat)), some (wi (bfN row p : Nat)), some (wi (t : Nat)), some (wi (runL (bfN row p) (row.drop p) : Nat)), a8, none] μ = some (.nx [some (.m 0), some (.d (.lst (natD row))), some (.d (partD rungs (some z))), some (.m 1), some (wi (p : Nat)), some (wi (bfN row p : Nat)), some (wi (t : Nat)), some (wi (min (runL (bfN row p) (row.drop p)) (mrN (some z)) : Nat)), a8, none] μ) := by
      intro t a8 μ
      generalize min (runL (bfN row p) (row.drop p)) (mrN (some z)) = c at e9 ⊢
      generalize runL (bfN row p) (row.drop p) = R at e9 ⊢
      generalize mrN (some z) = P at e8 e9
      unfold st3 partD repD prD
      generalize natD row = RL
      simp? [e8, e9, Int.toNat_natCast]
    generalize hc : min (runL (bfN row p) (row.drop p)) (mrN (some z)) = c at s3 hc1 hc2
    have x1 := F_L_draw_eq (s := s) (m := 2) (by omega) (by omega)
    by_cases y : 0 < c
    · have y' : (0 : Int) < (c : Nat) := by omega
      by_cases v : drawV s 2 = 0
      · rw [v] at x1
        have d2 := drawV_lt (s := drawS s 2) (m := (c : Nat)) (by omega)
        have x2 := F_L_draw_eq (s := drawS s 2) (m := (c : Nat)) (by omega) (by omega)
        obtain ⟨j, hj⟩ := Int.eq_ofNat_of_zero_le d2.1
        rw [hj] at x2 d2
        have hb : bfN row (p + (1 + j)) = bfN row p := bef_add (row := row) (show 1 + j ≤ runL ((0 :: row).getD p 0) (row.drop p) by show 1 + j ≤ runL (bfN row p) (row.drop p); omega) (Nat.le_of_lt hp)
        refine ⟨drawS (drawS s 2) (c : Nat), (true, 1 + j), p + (1 + j), by omega, by omega, fun ts2 h => ?_, go _ _ _ c (some (wi ((1 + j : Nat) : Int))) fun t a8 => ⟨_, s3 t a8 _, ?_⟩⟩
        · rw [hb] at h
          refine ⟨by omega, by omega, by omega, ?_⟩
          rw [List.drop_drop]
          exact h
        · rw [hb]
          have t1 := tok_snoc (l := ts) (q := (true, 1 + j))
          rw [show tokD (true, 1 + j) = .tup [.v (.str "again"), .int ((1 + j : Nat) : Int)] from rfl] at t1
          have l2 : (ts.map tokD).length = ts.length := List.length_map ..
          have e5 : (1 : Int) + (j : Nat) = ((1 + j : Nat) : Int) := by omega
          have e3 : ((p : Nat) : Int) + ((1 + j : Nat) : Int) = ((p + (1 + j) : Nat) : Int) := by omega
          generalize (ts ++ [(true, 1 + j)]).map tokD = U at t1 ⊢
          generalize ts.map tokD = V at t1 l2 ⊢
          generalize p + (1 + j) = p' at e3 ⊢
          generalize 1 + j = j' at *
          unfold st4 partD repD prD
          generalize natD row = RL
          simp? [y', x1, x2, l2, t1, e5, e3]
      · have v' : (drawV s 2 = 0) = False := eq_false v
        refine ⟨drawS s 2, (false, row.getD p 0), p + 1, by omega, by omega, one, go _ (false, row.getD p 0) (p + 1) c none fun t a8 => ⟨_, s3 t a8 _, st_else (s' := drawS s 2) (c := c) hp hl ?_⟩⟩
        unfold partD repD prD
        generalize natD row = RL
        simp? [y', x1, v']
    · have y' : ¬ (0 : Int) < (c : Nat) := by omega
      refine ⟨s, (false, row.getD p 0), p + 1, by omega, by omega, one, go s (false, row.getD p 0) (p + 1) c none fun t a8 => ⟨_, s3 t a8 _, st_else (s' := s) (c := c) hp hl ?_⟩⟩
      unfold partD repD prD
      generalize natD row = RL
      simp? [y']
theorem L_some_tokens_eq (T : Tb rungs r) {row : List Nat} (hn : row.length ≤ 900) {s : DS} : ∃ (s' : DS) (ts : List (Bool × Nat)), Par (mrN r) 0 ts row ∧ F_L_some_tokens [.m 0, .d (.lst (natD row)), .d (partD rungs r)] [.lst s.l] = some (.ok (.d (.lst (ts.map tokD))) [.lst s'.l]) := by
  have lp : ∀ {m j p : Nat} {s : DS} {ts : List (Bool × Nat)}, p ≤ row.length → row.length ≤ p + m → ts.length + (row.length - p) ≤ row.length → (∀ ts2, Par (mrN r) (bfN row p) ts2 (row.drop p) → Par (mrN r) 0 (ts ++ ts2) row) → ∃ (s' : DS) (us : List (Bool × Nat)), Par (mrN r) 0 us row ∧ us.length ≤ row.length ∧ fLoop (gNm 6) stB [6, 7, 8, 9] 2 ((List.range' j m).map fun t : Nat => wi (t : Nat)) (stR rungs r row p) [.lst s.l, .lst (ts.map tokD)] = some (.nx (stR rungs r row row.length) [.lst s'.l, .lst (us.map tokD)]) := by
    intro m
    induction m with
    | zero =>
      intro j p s ts h1 h2 h3 h4
      have : p = row.length := by omega
      subst this
      refine ⟨s, ts, ?_, by omega, rfl⟩
      have := h4 [] (by rw [List.drop_length]; rfl)
      rw [List.append_nil] at this
      exact this
    | succ m ih =>
      intro j p s ts h1 h2 h3 h4
      rw [List.range'_succ, List.map_cons, fLoop]
      by_cases c : p < row.length
      · obtain ⟨s', q, p', a1, a2, a3, a4⟩ := st_turn T (by omega) (s := s) (ts := ts) c (by omega)
        rw [a4]
        exact ih a2 (by omega) (by rw [List.length_append, List.length_singleton]; omega) (fun ts2 h => by
          have := h4 _ (a3 ts2 h)
          rw [List.append_assoc]
          exact this)
      · have : p = row.length := by omega
        subst this
        have c0 : ¬ ((row.length : Nat) : Int) < (row.length : Nat) := by omega
        have l1 : (natD row).length = row.length := natD_len
        have e : ∀ (k : Rho → Mu → Option So), turn (gNm 6) stB [6, 7, 8, 9] 2 (wi (j : Nat)) (stR rungs r row row.length) [.lst s.l, .lst (ts.map tokD)] k = k (stR rungs r row row.length) [.lst s.l, .lst (ts.map tokD)] := by
          intro k
          have body : stB [some (.m 0), some (.d (.lst (natD row))), some (.d (partD rungs r)), some (.m 1), some (wi (row.length : Nat)), some (wi (bfN row row.length : Nat)), some (wi (j : Nat)), none, none, none] [.lst s.l, .lst (ts.map tokD)] = some (.nx [some (.m 0), some (.d (.lst (natD row))), some (.d (partD rungs r)), some (.m 1), some (wi (row.length : Nat)), some (wi (bfN row row.length : Nat)), some (wi (j : Nat)), none, none, none] [.lst s.l, .lst (ts.map tokD)]) := by
            unfold stB
            refine (if_no ?h0).trans ?h1
            case h0 =>
              generalize partD rungs r = pd
              generalize bfN row row.length = b
              generalize natD row = RL at l1 ⊢
              simp? [l1, c0]
            case h1 => rfl
          show lt [6, 7, 8, 9] 2 (stB [some (.m 0), some (.d (.lst (natD row))), some (.d (partD rungs r)), some (.m 1), some (wi (row.length : Nat)), some (wi (bfN row row.length : Nat)), some (wi (j : Nat)), none, none, none] [.lst s.l, .lst (ts.map tokD)]) k = _
          rw [body]
          rfl
        rw [e]
        exact ih (Nat.le_refl _) (by omega) h3 h4
  obtain ⟨s', us, h1, h2, h3⟩ := lp (m := row.length) (j := 0) (p := 0) (s := s) (ts := []) (Nat.zero_le _) (by omega) (by simp) (fun ts2 h => h)
  refine ⟨s', us, h1, ?_⟩
  have l1 : (natD row).length = row.length := natD_len
  have body : B_L_some_tokens [some (.m 0), some (.d (.lst (natD row))), some (.d (partD rungs r)), none, none, none, none, none, none, none] [.lst s.l] = some (.rt (.d (.lst (us.map tokD))) [.lst s'.l, .dead]) := by
    unfold B_L_some_tokens
    refine (fseq_nx (ρ' := [some (.m 0), some (.d (.lst (natD row))), some (.d (partD rungs r)), some (.m 1), none, none, none, none, none, none]) (μ' := [.lst s.l, .lst []]) ?h1).trans ?n1
    case h1 =>
      generalize partD rungs r = pd
      generalize natD row = RL
      simp? [eq_self]
    unfold B_L_some_tokens_1
    refine (fseq_nx (ρ' := [some (.m 0), some (.d (.lst (natD row))), some (.d (partD rungs r)), some (.m 1), some (wi 0), none, none, none, none, none]) (μ' := [.lst s.l, .lst []]) ?h2).trans ?n2
    case h2 => rfl
    unfold B_L_some_tokens_2
    refine (fseq_nx (ρ' := [some (.m 0), some (.d (.lst (natD row))), some (.d (partD rungs r)), some (.m 1), some (wi 0), some (wi 0), none, none, none, none]) (μ' := [.lst s.l, .lst []]) ?h3).trans ?n3
    case h3 => rfl
    unfold B_L_some_tokens_3
    refine (fseq_nx (ρ' := stR rungs r row row.length) (μ' := [.lst s'.l, .lst (us.map tokD)]) ?h4).trans ?n4
    case h4 =>
      refine Eq.trans ?_ h3
      unfold fFor
      rw [show iR1 (fCons (fCB cLen (fCons (fVar 1) fNil)) fNil) [some (.m 0), some (.d (.lst (natD row))), some (.d (partD rungs r)), some (.m 1), some (wi 0), some (wi 0), none, none, none, none] [.lst s.l, .lst []] = some (.ok ((List.range' 0 row.length).map fun t : Nat => wi (t : Nat)) [.lst s.l, .lst []]) from by
        rw [← List.range_eq_range', ← rints_nat]
        generalize partD rungs r = pd
        generalize natD row = RL at l1 ⊢
        simp? [l1, Int.toNat_natCast]]
      rfl
    unfold B_L_some_tokens_4
    rfl
  unfold F_L_some_tokens fRun
  rw [if_pos (show [W.m 0, W.d (.lst (natD row)), W.d (partD rungs r)].length = 3 from rfl)]
  show fin false 1 (B_L_some_tokens [some (.m 0), some (.d (.lst (natD row))), some (.d (partD rungs r)), none, none, none, none, none, none, none] [.lst s.l]) = _
  rw [body]
  rfl
theorem par_mem : ∀ {ts : List (Bool × Nat)} {M b : Nat} {xs : List Nat}, Par M b ts xs → (∀ q ∈ ts, (q.1 = false → q.2 ∈ xs) ∧ (q.1 = true → 1 ≤ M)) ∧ ts.length ≤ xs.length
  | [], M, b, xs, h => ⟨(fun q hq => by cases hq), Nat.zero_le _⟩
  | (false, x) :: ts, M, b, xs, h => by
    obtain ⟨ys, rfl, h⟩ := h
    obtain ⟨a, l⟩ := par_mem h
    refine ⟨fun q hq => ?_, by simpa using l⟩
    rcases List.mem_cons.mp hq with rfl | hq
    · exact ⟨fun _ => List.mem_cons_self, fun e => by cases e⟩
    · exact ⟨fun e => List.mem_cons_of_mem _ ((a q hq).1 e), (a q hq).2⟩
  | (true, k) :: ts, M, b, xs, h => by
    obtain ⟨h1, h2, h3, h⟩ := h
    obtain ⟨a, l⟩ := par_mem h
    have hr := runL_le (b := b) (xs := xs)
    rw [List.length_drop] at l
    refine ⟨fun q hq => ?_, by rw [List.length_cons]; omega⟩
    rcases List.mem_cons.mp hq with rfl | hq
    · exact ⟨(fun e => by cases e), fun _ => by omega⟩
    · exact ⟨fun e => List.mem_of_mem_drop ((a q hq).1 e), (a q hq).2⟩
end

/-! ### the law -/
theorem pl_tok {n : Nat} {q : Bool × Nat} : pl (n + 1) (tokD q) := by
  have h1 : PySem.PyData.strOk (Str.ofString "again") = true := by decide +kernel
  have h2 : PySem.PyData.strOk (Str.ofString "one") = true := by decide +kernel
  obtain ⟨f, x⟩ := q
  unfold tokD
  simp only [pl]
  refine ⟨by simp, fun d hd => ?_⟩
  rcases List.mem_cons.mp hd with rfl | hd
  · cases f
    · cases n <;> simpa [pl] using h2
    · cases n <;> simpa [pl] using h1
  · rw [List.mem_singleton] at hd
    subst hd
    cases n <;> simp [pl]

theorem law_enda {K : PySem.W.Frag} {rungs : List (Nat × Nat)} {r : Option (Nat × Nat)} {sc : D} {row : List Nat} {us : List (Bool × Nat)} (T : Tb rungs r) (hn : row.length ≤ 64) (hx : ∀ x ∈ row, x < sS rungs rungs.length) (hu : Par (mrN r) 0 us row) : B_law_4 K [some (.d sc), some (.d (partD rungs r)), some (.d (.lst (natD row))), some (.d (.lst (us.map tokD))), none, none, none, none, none, none, none, none, none, none, none] [] = some (.rt (wb true) []) := by
  have n2 := T.n2
  have i0 := Table_init_eq (K := K) T
  obtain ⟨pm, pl0⟩ := par_mem hu
  have e1 := L_least_eq T (row := row) (by omega) hx
  have e2 := least_tokens_eq (K := K) T (row := row) (by omega) hx
  have e3 := price_eq (K := K) T (row := row) (by omega) hx
  have e4 := L_bits_of_eq T (ts := us) (fun q hq => ⟨fun h => hx _ ((pm q hq).1 h), fun h hr => by
    have := (pm q hq).2 h
    rw [hr] at this
    exact absurd this (by decide)⟩)
  have hge := par_ge (sz := szN rungs) (A := apN r) hu
  have hw := win_all (sz := szN rungs) (A := apN r) (M := mrN r) (f := row.length) (b := 0) (xs := row) (ts := us) (Nat.le_refl _) hu
  have tl : (tk (szN rungs) (apN r) (mrN r) row.length 0 row).length ≤ 1000 := by
    rw [← (walk_all (sz := szN rungs) (A := apN r) (M := mrN r) (row := row)).1]
    have := wkI_len (S := rpA (szN rungs) (apN r) (mrN r) row 0) (row := row) (t := row.length)
    omega
  have h0 : 0 < sS rungs rungs.length := by
    have := sS_mono (rungs := rungs) (show 1 ≤ rungs.length from T.n1)
    have e : sS rungs 1 = sS rungs 0 + 2 ^ (rungs[0]'T.n1).2 := sS_succ (List.getElem?_eq_getElem T.n1)
    have := Nat.one_le_two_pow (n := (rungs[0]'T.n1).2)
    omega
  have ol : (row.reverse ++ [0, 0]).length ≤ 66 := by rw [List.length_append, List.length_reverse]; show _ + 2 ≤ _; omega
  have ox : ∀ x ∈ row.reverse ++ [0, 0], x < sS rungs rungs.length := by
    intro x h
    rcases List.mem_append.mp h with h | h
    · exact hx x (List.mem_reverse.mp h)
    · rcases List.mem_cons.mp h with rfl | h
      · exact h0
      · rw [List.mem_singleton] at h
        rw [h]
        exact h0
  have o1 := L_least_eq T (row := row.reverse ++ [0, 0]) (by omega) ox
  have o2 := least_tokens_eq (K := K) T (row := row.reverse ++ [0, 0]) (by omega) ox
  have o3 := price_eq (K := K) T (row := row.reverse ++ [0, 0]) (by omega) ox
  have otl : (tk (szN rungs) (apN r) (mrN r) (row.reverse ++ [0, 0]).length 0 (row.reverse ++ [0, 0])).length ≤ 1000 := by
    rw [← (walk_all (sz := szN rungs) (A := apN r) (M := mrN r) (row := row.reverse ++ [0, 0])).1]
    have := wkI_len (S := rpA (szN rungs) (apN r) (mrN r) (row.reverse ++ [0, 0]) 0) (row := row.reverse ++ [0, 0]) (t := (row.reverse ++ [0, 0]).length)
    omega
  have orev : (natD row).reverse ++ [D.v (V.int 0), D.v (V.int 0)] = natD (row.reverse ++ [0, 0]) := by
    rw [natD_app]
    unfold natD
    rw [List.map_reverse]
    rfl
  have l1 : (natD row).length ≤ 64 := by rw [natD_len]; exact hn
  have l2 : (natD (row.reverse ++ [0, 0])).length ≤ 66 := by rw [natD_len]; exact ol
  have q0 : ∀ μ, oEqD (.d (.lst (natD row))) (.d (.lst (natD row))) μ = _ := fun μ => oEqD_pn (μ := μ) (pn_nat (n := 0) (by omega)).2 (pn_nat (n := 0) (by omega)).2 (by decide) (by decide)
  rw [eqB_self] at q0
  have sT : ∀ ts : List (Bool × Nat), ts.length ≤ 1000 → F_L_same 8 [.d (.tup (ts.map tokD)), .d (.tup (ts.map tokD))] [] = some (.ok (wb true) []) := fun ts h => same_eq (n := 7) (pl_tup (n := 6) (by rw [List.length_map]; omega) (fun d hd => by
    obtain ⟨q, _, rfl⟩ := List.mem_map.mp hd
    exact pl_tok)) false false
  have s1 := sT _ tl
  have s2 := same_n (x := cst (szN rungs) (apN r) (mrN r) 0 row)
  have s3 := sT _ otl
  have s4 := same_n (x := cst (szN rungs) (apN r) (mrN r) 0 (row.reverse ++ [0, 0]))
  have wn : btN (szN rungs) (apN r) us = cst (szN rungs) (apN r) (mrN r) 0 row → F_L_wins [.d (.tup ((tk (szN rungs) (apN r) (mrN r) row.length 0 row).map tokD)), .d (.lst (us.map tokD))] [] = some (.ok (wb true) []) := fun h => L_wins_eq (hw h) tl (by omega)
  generalize (tk (szN rungs) (apN r) (mrN r) row.length 0 row).map tokD = TK at e1 e2 s1 wn
  generalize cst (szN rungs) (apN r) (mrN r) 0 row = C at e1 e3 s2 hge wn
  generalize (tk (szN rungs) (apN r) (mrN r) (row.reverse ++ [0, 0]).length 0 (row.reverse ++ [0, 0])).map tokD = OT at o1 o2 s3
  generalize cst (szN rungs) (apN r) (mrN r) 0 (row.reverse ++ [0, 0]) = OC at o1 o3 s4
  generalize btN (szN rungs) (apN r) us = Bt at e4 hge wn
  generalize us.map tokD = U at e4 wn ⊢
  generalize natD (row.reverse ++ [0, 0]) = OL at o1 o2 o3 orev l2
  generalize natD row = RL at e1 e2 e3 orev l1 q0 ⊢
  unfold tbO at e2 e3 o2 o3
  unfold B_law_4
  refine (fseq_nx (ρ' := [some (.d sc), some (.d (partD rungs r)), some (.d (.lst RL)), some (.d (.lst U)), none, none, some (.d (.obj (He.ga K "Table") (tbF rungs r))), none, none, none, none, none, none, none, none]) (μ' := []) ?h4).trans ?n4
  case h4 =>
    generalize tbF rungs r = tf at i0 ⊢
    have m0 : (rungs.map prD).length ≤ 15 := by rw [List.length_map]; exact n2
    unfold partD
    generalize rungs.map prD = P at i0 m0 ⊢
    generalize repD r = R at i0 ⊢
    simp? [i0]
  generalize tbF rungs r = tf at e2 e3 o2 o3 ⊢
  generalize partD rungs r = pd at e1 e4 o1 ⊢
  unfold B_law_5
  refine (fseq_nx (ρ' := [some (.d sc), some (.d pd), some (.d (.lst RL)), some (.d (.lst U)), none, none, some (.d (.obj (He.ga K "Table") tf)), some (.d (.lst RL)), none, none, none, none, none, none, none]) (μ' := []) ?h5).trans ?n5
  case h5 => simp? [eq_self]
  unfold B_law_6
  refine (fseq_nx (ρ' := [some (.d sc), some (.d pd), some (.d (.lst RL)), some (.d (.lst U)), none, none, some (.d (.obj (He.ga K "Table") tf)), some (.d (.lst RL)), some (.d (.tup TK)), some (wi (C : Nat)), none, none, none, none, none]) (μ' := []) ?h6).trans ?n6
  case h6 => simp? [e1]
  unfold B_law_7
  refine (fseq_nx (ρ' := [some (.d sc), some (.d pd), some (.d (.lst RL)), some (.d (.lst U)), none, none, some (.d (.obj (He.ga K "Table") tf)), some (.d (.lst RL)), some (.d (.tup TK)), some (wi (C : Nat)), some (.d (.tup TK)), none, none, none, none]) (μ' := []) ?h7).trans ?n7
  case h7 => simp? [e2]
  unfold B_law_8
  refine (fseq_nx (ρ' := [some (.d sc), some (.d pd), some (.d (.lst RL)), some (.d (.lst U)), none, none, some (.d (.obj (He.ga K "Table") tf)), some (.d (.lst RL)), some (.d (.tup TK)), some (wi (C : Nat)), some (.d (.tup TK)), none, none, none, none]) (μ' := []) ?h8).trans ?n8
  case h8 => simp? [e3, s1, s2]
  unfold B_law_9
  refine (fseq_nx (ρ' := [some (.d sc), some (.d pd), some (.d (.lst RL)), some (.d (.lst U)), none, none, some (.d (.obj (He.ga K "Table") tf)), some (.d (.lst RL)), some (.d (.tup TK)), some (wi (C : Nat)), some (.d (.tup TK)), some (wi (Bt : Nat)), none, none, none]) (μ' := []) ?h9).trans ?n9
  case h9 => simp? [e4]
  unfold B_law_10
  refine (fseq_nx (ρ' := [some (.d sc), some (.d pd), some (.d (.lst RL)), some (.d (.lst U)), none, none, some (.d (.obj (He.ga K "Table") tf)), some (.d (.lst RL)), some (.d (.tup TK)), some (wi (C : Nat)), some (.d (.tup TK)), some (wi (Bt : Nat)), none, none, none]) (μ' := []) ?h10).trans ?n10
  case h10 =>
    have c1 : ¬ ((Bt : Nat) : Int) < (C : Nat) := by omega
    have q2 : ∀ μ, oEqD (wi (Bt : Nat)) (wi (C : Nat)) μ = some (.ok (wb (decide (Bt = C))) μ) := fun μ => oEqD_n
    by_cases c : Bt = C
    · rw [decide_eq_true c] at q2
      have w := wn c
      simp? [c1, q2, w]
    · rw [decide_eq_false c] at q2
      simp? [c1, q2]
  unfold B_law_11
  refine (fseq_nx (ρ' := [some (.d sc), some (.d pd), some (.d (.lst RL)), some (.d (.lst U)), none, none, some (.d (.obj (He.ga K "Table") tf)), some (.d (.lst RL)), some (.d (.tup TK)), some (wi (C : Nat)), some (.d (.tup TK)), some (wi (Bt : Nat)), some (.d (.lst OL)), none, none]) (μ' := []) ?h11).trans ?n11
  case h11 => simp? [fRevL, newL, orev, List.length_reverse]
  unfold B_law_12
  refine (fseq_nx (ρ' := [some (.d sc), some (.d pd), some (.d (.lst RL)), some (.d (.lst U)), none, none, some (.d (.obj (He.ga K "Table") tf)), some (.d (.lst RL)), some (.d (.tup TK)), some (wi (C : Nat)), some (.d (.tup TK)), some (wi (Bt : Nat)), some (.d (.lst OL)), some (.d (.tup OT)), some (wi (OC : Nat))]) (μ' := []) ?h12).trans ?n12
  case h12 => simp? [o1]
  unfold B_law_13
  refine (fseq_nx (ρ' := [some (.d sc), some (.d pd), some (.d (.lst RL)), some (.d (.lst U)), none, none, some (.d (.obj (He.ga K "Table") tf)), some (.d (.lst RL)), some (.d (.tup TK)), some (wi (C : Nat)), some (.d (.tup TK)), some (wi (Bt : Nat)), some (.d (.lst OL)), some (.d (.tup OT)), some (wi (OC : Nat))]) (μ' := []) ?h13).trans ?n13
  case h13 => simp? [o2, o3, s3, s4]
  unfold B_law_14
  refine (fseq_nx (ρ' := [some (.d sc), some (.d pd), some (.d (.lst RL)), some (.d (.lst U)), none, none, some (.d (.obj (He.ga K "Table") tf)), some (.d (.lst RL)), some (.d (.tup TK)), some (wi (C : Nat)), some (.d (.tup TK)), some (wi (Bt : Nat)), some (.d (.lst OL)), some (.d (.tup OT)), some (wi (OC : Nat))]) (μ' := []) ?h14).trans ?n14
  case h14 => simp? [e2, e3, s1, s2]
  unfold B_law_15
  simp? [q0]

theorem law_endb {K : PySem.W.Frag} {rungs : List (Nat × Nat)} {r : Option (Nat × Nat)} {sc : D} {row : List Nat} {us : List (Bool × Nat)} {a b c : List D} {n5 : Int} (T : Tb rungs r) (hn : row.length ≤ 64) (hx : ∀ x ∈ row, x < sS rungs rungs.length) (hu : Par (mrN r) 0 us row) : B_law_4 K [some (.d sc), some (.d (partD rungs r)), some (.d (.lst (natD row))), some (.d (.lst (us.map tokD))), some (.m 1), some (wi n5), none, none, none, none, none, none, none, none, none] [.lst a, .lst b, .lst c] = some (.rt (wb true) [.lst a, .lst b, .lst c]) := by
  have n2 := T.n2
  have i0 := Table_init_eq (K := K) T
  obtain ⟨pm, pl0⟩ := par_mem hu
  have e1 := L_least_eq T (row := row) (by omega) hx
  have e2 := least_tokens_eq (K := K) T (row := row) (by omega) hx
  have e3 := price_eq (K := K) T (row := row) (by omega) hx
  have e4 := L_bits_of_eq T (ts := us) (fun q hq => ⟨fun h => hx _ ((pm q hq).1 h), fun h hr => by
    have := (pm q hq).2 h
    rw [hr] at this
    exact absurd this (by decide)⟩)
  have hge := par_ge (sz := szN rungs) (A := apN r) hu
  have hw := win_all (sz := szN rungs) (A := apN r) (M := mrN r) (f := row.length) (b := 0) (xs := row) (ts := us) (Nat.le_refl _) hu
  have tl : (tk (szN rungs) (apN r) (mrN r) row.length 0 row).length ≤ 1000 := by
    rw [← (walk_all (sz := szN rungs) (A := apN r) (M := mrN r) (row := row)).1]
    have := wkI_len (S := rpA (szN rungs) (apN r) (mrN r) row 0) (row := row) (t := row.length)
    omega
  have h0 : 0 < sS rungs rungs.length := by
    have := sS_mono (rungs := rungs) (show 1 ≤ rungs.length from T.n1)
    have e : sS rungs 1 = sS rungs 0 + 2 ^ (rungs[0]'T.n1).2 := sS_succ (List.getElem?_eq_getElem T.n1)
    have := Nat.one_le_two_pow (n := (rungs[0]'T.n1).2)
    omega
  have ol : (row.reverse ++ [0, 0]).length ≤ 66 := by rw [List.length_append, List.length_reverse]; show _ + 2 ≤ _; omega
  have ox : ∀ x ∈ row.reverse ++ [0, 0], x < sS rungs rungs.length := by
    intro x h
    rcases List.mem_append.mp h with h | h
    · exact hx x (List.mem_reverse.mp h)
    · rcases List.mem_cons.mp h with rfl | h
      · exact h0
      · rw [List.mem_singleton] at h
        rw [h]
        exact h0
  have o1 := L_least_eq T (row := row.reverse ++ [0, 0]) (by omega) ox
  have o2 := least_tokens_eq (K := K) T (row := row.reverse ++ [0, 0]) (by omega) ox
  have o3 := price_eq (K := K) T (row := row.reverse ++ [0, 0]) (by omega) ox
  have otl : (tk (szN rungs) (apN r) (mrN r) (row.reverse ++ [0, 0]).length 0 (row.reverse ++ [0, 0])).length ≤ 1000 := by
    rw [← (walk_all (sz := szN rungs) (A := apN r) (M := mrN r) (row := row.reverse ++ [0, 0])).1]
    have := wkI_len (S := rpA (szN rungs) (apN r) (mrN r) (row.reverse ++ [0, 0]) 0) (row := row.reverse ++ [0, 0]) (t := (row.reverse ++ [0, 0]).length)
    omega
  have orev : (natD row).reverse ++ [D.v (V.int 0), D.v (V.int 0)] = natD (row.reverse ++ [0, 0]) := by
    rw [natD_app]
    unfold natD
    rw [List.map_reverse]
    rfl
  have l1 : (natD row).length ≤ 64 := by rw [natD_len]; exact hn
  have l2 : (natD (row.reverse ++ [0, 0])).length ≤ 66 := by rw [natD_len]; exact ol
  have q0 : ∀ μ, oEqD (.d (.lst (natD row))) (.d (.lst (natD row))) μ = _ := fun μ => oEqD_pn (μ := μ) (pn_nat (n := 0) (by omega)).2 (pn_nat (n := 0) (by omega)).2 (by decide) (by decide)
  rw [eqB_self] at q0
  have sT : ∀ ts : List (Bool × Nat), ts.length ≤ 1000 → F_L_same 8 [.d (.tup (ts.map tokD)), .d (.tup (ts.map tokD))] [] = some (.ok (wb true) []) := fun ts h => same_eq (n := 7) (pl_tup (n := 6) (by rw [List.length_map]; omega) (fun d hd => by
    obtain ⟨q, _, rfl⟩ := List.mem_map.mp hd
    exact pl_tok)) false false
  have s1 := sT _ tl
  have s2 := same_n (x := cst (szN rungs) (apN r) (mrN r) 0 row)
  have s3 := sT _ otl
  have s4 := same_n (x := cst (szN rungs) (apN r) (mrN r) 0 (row.reverse ++ [0, 0]))
  have wn : btN (szN rungs) (apN r) us = cst (szN rungs) (apN r) (mrN r) 0 row → F_L_wins [.d (.tup ((tk (szN rungs) (apN r) (mrN r) row.length 0 row).map tokD)), .d (.lst (us.map tokD))] [] = some (.ok (wb true) []) := fun h => L_wins_eq (hw h) tl (by omega)
  generalize (tk (szN rungs) (apN r) (mrN r) row.length 0 row).map tokD = TK at e1 e2 s1 wn
  generalize cst (szN rungs) (apN r) (mrN r) 0 row = C at e1 e3 s2 hge wn
  generalize (tk (szN rungs) (apN r) (mrN r) (row.reverse ++ [0, 0]).length 0 (row.reverse ++ [0, 0])).map tokD = OT at o1 o2 s3
  generalize cst (szN rungs) (apN r) (mrN r) 0 (row.reverse ++ [0, 0]) = OC at o1 o3 s4
  generalize btN (szN rungs) (apN r) us = Bt at e4 hge wn
  generalize us.map tokD = U at e4 wn ⊢
  generalize natD (row.reverse ++ [0, 0]) = OL at o1 o2 o3 orev l2
  generalize natD row = RL at e1 e2 e3 orev l1 q0 ⊢
  unfold tbO at e2 e3 o2 o3
  unfold B_law_4
  refine (fseq_nx (ρ' := [some (.d sc), some (.d (partD rungs r)), some (.d (.lst RL)), some (.d (.lst U)), some (.m 1), some (wi n5), some (.d (.obj (He.ga K "Table") (tbF rungs r))), none, none, none, none, none, none, none, none]) (μ' := [.lst a, .lst b, .lst c]) ?h4).trans ?n4
  case h4 =>
    generalize tbF rungs r = tf at i0 ⊢
    have m0 : (rungs.map prD).length ≤ 15 := by rw [List.length_map]; exact n2
    unfold partD
    generalize rungs.map prD = P at i0 m0 ⊢
    generalize repD r = R at i0 ⊢
    simp? [i0]
  generalize tbF rungs r = tf at e2 e3 o2 o3 ⊢
  generalize partD rungs r = pd at e1 e4 o1 ⊢
  unfold B_law_5
  refine (fseq_nx (ρ' := [some (.d sc), some (.d pd), some (.d (.lst RL)), some (.d (.lst U)), some (.m 1), some (wi n5), some (.d (.obj (He.ga K "Table") tf)), some (.d (.lst RL)), none, none, none, none, none, none, none]) (μ' := [.lst a, .lst b, .lst c]) ?h5).trans ?n5
  case h5 => simp? [eq_self]
  unfold B_law_6
  refine (fseq_nx (ρ' := [some (.d sc), some (.d pd), some (.d (.lst RL)), some (.d (.lst U)), some (.m 1), some (wi n5), some (.d (.obj (He.ga K "Table") tf)), some (.d (.lst RL)), some (.d (.tup TK)), some (wi (C : Nat)), none, none, none, none, none]) (μ' := [.lst a, .lst b, .lst c]) ?h6).trans ?n6
  case h6 => simp? [e1]
  unfold B_law_7
  refine (fseq_nx (ρ' := [some (.d sc), some (.d pd), some (.d (.lst RL)), some (.d (.lst U)), some (.m 1), some (wi n5), some (.d (.obj (He.ga K "Table") tf)), some (.d (.lst RL)), some (.d (.tup TK)), some (wi (C : Nat)), some (.d (.tup TK)), none, none, none, none]) (μ' := [.lst a, .lst b, .lst c]) ?h7).trans ?n7
  case h7 => simp? [e2]
  unfold B_law_8
  refine (fseq_nx (ρ' := [some (.d sc), some (.d pd), some (.d (.lst RL)), some (.d (.lst U)), some (.m 1), some (wi n5), some (.d (.obj (He.ga K "Table") tf)), some (.d (.lst RL)), some (.d (.tup TK)), some (wi (C : Nat)), some (.d (.tup TK)), none, none, none, none]) (μ' := [.lst a, .lst b, .lst c]) ?h8).trans ?n8
  case h8 => simp? [e3, s1, s2]
  unfold B_law_9
  refine (fseq_nx (ρ' := [some (.d sc), some (.d pd), some (.d (.lst RL)), some (.d (.lst U)), some (.m 1), some (wi n5), some (.d (.obj (He.ga K "Table") tf)), some (.d (.lst RL)), some (.d (.tup TK)), some (wi (C : Nat)), some (.d (.tup TK)), some (wi (Bt : Nat)), none, none, none]) (μ' := [.lst a, .lst b, .lst c]) ?h9).trans ?n9
  case h9 => simp? [e4]
  unfold B_law_10
  refine (fseq_nx (ρ' := [some (.d sc), some (.d pd), some (.d (.lst RL)), some (.d (.lst U)), some (.m 1), some (wi n5), some (.d (.obj (He.ga K "Table") tf)), some (.d (.lst RL)), some (.d (.tup TK)), some (wi (C : Nat)), some (.d (.tup TK)), some (wi (Bt : Nat)), none, none, none]) (μ' := [.lst a, .lst b, .lst c]) ?h10).trans ?n10
  case h10 =>
    have c1 : ¬ ((Bt : Nat) : Int) < (C : Nat) := by omega
    have q2 : ∀ μ, oEqD (wi (Bt : Nat)) (wi (C : Nat)) μ = some (.ok (wb (decide (Bt = C))) μ) := fun μ => oEqD_n
    by_cases c : Bt = C
    · rw [decide_eq_true c] at q2
      have w := wn c
      simp? [c1, q2, w]
    · rw [decide_eq_false c] at q2
      simp? [c1, q2]
  unfold B_law_11
  refine (fseq_nx (ρ' := [some (.d sc), some (.d pd), some (.d (.lst RL)), some (.d (.lst U)), some (.m 1), some (wi n5), some (.d (.obj (He.ga K "Table") tf)), some (.d (.lst RL)), some (.d (.tup TK)), some (wi (C : Nat)), some (.d (.tup TK)), some (wi (Bt : Nat)), some (.d (.lst OL)), none, none]) (μ' := [.lst a, .lst b, .lst c]) ?h11).trans ?n11
  case h11 => simp? [fRevL, newL, orev, List.length_reverse]
  unfold B_law_12
  refine (fseq_nx (ρ' := [some (.d sc), some (.d pd), some (.d (.lst RL)), some (.d (.lst U)), some (.m 1), some (wi n5), some (.d (.obj (He.ga K "Table") tf)), some (.d (.lst RL)), some (.d (.tup TK)), some (wi (C : Nat)), some (.d (.tup TK)), some (wi (Bt : Nat)), some (.d (.lst OL)), some (.d (.tup OT)), some (wi (OC : Nat))]) (μ' := [.lst a, .lst b, .lst c]) ?h12).trans ?n12
  case h12 => simp? [o1]
  unfold B_law_13
  refine (fseq_nx (ρ' := [some (.d sc), some (.d pd), some (.d (.lst RL)), some (.d (.lst U)), some (.m 1), some (wi n5), some (.d (.obj (He.ga K "Table") tf)), some (.d (.lst RL)), some (.d (.tup TK)), some (wi (C : Nat)), some (.d (.tup TK)), some (wi (Bt : Nat)), some (.d (.lst OL)), some (.d (.tup OT)), some (wi (OC : Nat))]) (μ' := [.lst a, .lst b, .lst c]) ?h13).trans ?n13
  case h13 => simp? [o2, o3, s3, s4]
  unfold B_law_14
  refine (fseq_nx (ρ' := [some (.d sc), some (.d pd), some (.d (.lst RL)), some (.d (.lst U)), some (.m 1), some (wi n5), some (.d (.obj (He.ga K "Table") tf)), some (.d (.lst RL)), some (.d (.tup TK)), some (wi (C : Nat)), some (.d (.tup TK)), some (wi (Bt : Nat)), some (.d (.lst OL)), some (.d (.tup OT)), some (wi (OC : Nat))]) (μ' := [.lst a, .lst b, .lst c]) ?h14).trans ?n14
  case h14 => simp? [e2, e3, s1, s2]
  unfold B_law_15
  simp? [q0]

theorem law_run {K : PySem.W.Frag} {x : W} {μ : Mu} (h : B_law K [some x, none, none, none, none, none, none, none, none, none, none, none, none, none, none] [] = some (.rt (wb true) μ)) : F_law K [x] [] = some (.ok (wb true) []) := by
  unfold F_law fRun
  rw [if_pos (show [x].length = 1 from rfl)]
  show fin false 0 (B_law K [some x, none, none, none, none, none, none, none, none, none, none, none, none, none, none] []) = _
  rw [h]
  rfl
theorem tb0 : Tb [(1, 1), (2, 0)] (some (2, 2)) where
  n1 := by decide
  n2 := by decide
  wd := by decide
  rw := fun q h => by cases h; decide
  le := by decide +kernel
  kr := by decide +kernel
theorem law_true (K : PySem.W.Frag) (ns : List Int) (hl : ns.length ≤ 63) : F_law K [.d (.scr (ns.map D.int))] [] = some (.ok (wb true) []) := by
  have front : ∀ r : Option So, B_law_3 K [some (.d (.scr (ns.map D.int))), some (.d (partD [(1, 1), (2, 0)] (some (2, 2)))), some (.d (.lst (natD [0, 0, 2, 2, 1]))), some (.d (.lst ([(false, 0), (false, 0), (false, 2), (false, 2), (false, 1)].map tokD))), none, none, none, none, none, none, none, none, none, none, none] [] = r → B_law K [some (.d (.scr (ns.map D.int))), none, none, none, none, none, none, none, none, none, none, none, none, none, none] [] = r := by
    intro r h
    rw [← h]
    unfold B_law B_law_1 B_law_2
    rfl
  by_cases c : 0 < ns.length
  · have c' : (0 : Int) < (ns.length : Nat) := by omega
    obtain ⟨s0, rungs, r, T, x1⟩ := L_coding_table_eq (s := drawerOf ns 0)
    have tot := sS_total T
    have h0 : 0 < sS rungs rungs.length := by
      have := sS_mono (rungs := rungs) (show 1 ≤ rungs.length from T.n1)
      have e : sS rungs 1 = sS rungs 0 + 2 ^ (rungs[0]'T.n1).2 := sS_succ (List.getElem?_eq_getElem T.n1)
      have := Nat.one_le_two_pow (n := (rungs[0]'T.n1).2)
      omega
    have x2 := L_total_eq T
    generalize hS : sS rungs rungs.length = S1 at x2 tot h0
    have e9 : (if (3 : Int) < ((S1 : Nat) : Int) then (3 : Int) else ((S1 : Nat) : Int)) = ((min S1 3 : Nat) : Int) := by
      split <;> omega
    obtain ⟨p, hp, p1, p2⟩ := pick_of (s := drawerOf ns 1) (l := [((S1 : Nat) : Int), ((min S1 3 : Nat) : Int)]) (P := fun x => 1 ≤ x ∧ x ≤ (S1 : Nat)) (by simp) (by
      intro x hx
      rcases List.mem_cons.mp hx with rfl | hx
      · omega
      · rw [List.mem_singleton] at hx
        omega)
    have x3 : F_L_pick [.m 0, .d (.lst [D.v (V.int (S1 : Nat)), D.v (V.int (min S1 3 : Nat))])] [.lst (drawerOf ns 1).l] = some (.ok (.d (pickV (drawerOf ns 1) [D.v (V.int (S1 : Nat)), D.v (V.int (min S1 3 : Nat))])) [.lst (drawS (drawerOf ns 1) 2).l]) := F_L_pick_eq (s := drawerOf ns 1) (by simp) (by simp)
    rw [show pickV (drawerOf ns 1) [D.v (V.int (S1 : Nat)), D.v (V.int (min S1 3 : Nat))] = .int p from hp] at x3
    generalize drawS (drawerOf ns 1) 2 = s1 at x3
    obtain ⟨lim, hlim⟩ := Int.eq_ofNat_of_zero_le (show 0 ≤ p by omega)
    subst hlim
    obtain ⟨s2, row, r1, r2, x4⟩ := L_run_row_eq (s := s1) (lim := lim) (by omega) (by omega)
    have hx : ∀ x ∈ row, x < sS rungs rungs.length := fun x h => by
      have := r2 x h
      omega
    obtain ⟨s3, us, hu, x5⟩ := L_some_tokens_eq T (row := row) (by omega) (s := drawerOf ns 2)
    have e5 := law_endb (K := K) (sc := .scr (ns.map D.int)) (a := s0.l) (b := s2.l) (c := s3.l) (n5 := (S1 : Nat)) T r1 hx hu
    refine law_run (front _ ?_) (μ := [.lst s0.l, .lst s2.l, .lst s3.l])
    have f0 := F_L_drawer_eq (ns := ns) (k := 0) (by omega)
    have f1 := F_L_drawer_eq (ns := ns) (k := 1) (by omega)
    have f2 := F_L_drawer_eq (ns := ns) (k := 2) (by omega)
    generalize drawerOf ns 0 = d0 at f0 x1
    generalize drawerOf ns 1 = d1 at f1 x3
    generalize drawerOf ns 2 = d2 at f2 x5
    generalize natD row = RL at x4 x5 e5
    generalize us.map tokD = U at x5 e5
    unfold B_law_3
    refine (fseq_nx ((if_yes ?i1).trans ?i2)).trans e5
    case i1 => simp? [List.length_map, c']
    refine (fseq_nx (ρ' := [some (.d (.scr (ns.map D.int))), some (.d (partD rungs r)), some (.d (.lst (natD [0, 0, 2, 2, 1]))), some (.d (.lst ([(false, 0), (false, 0), (false, 2), (false, 2), (false, 1)].map tokD))), none, none, none, none, none, none, none, none, none, none, none]) (μ' := [.lst s0.l]) ?j1).trans ?k1
    case j1 => simp? [f0, x1]
    refine (fseq_nx (ρ' := [some (.d (.scr (ns.map D.int))), some (.d (partD rungs r)), some (.d (.lst (natD [0, 0, 2, 2, 1]))), some (.d (.lst ([(false, 0), (false, 0), (false, 2), (false, 2), (false, 1)].map tokD))), some (.m 1), none, none, none, none, none, none, none, none, none, none]) (μ' := [.lst s0.l, .lst d1.l]) ?j2).trans ?k2
    case j2 => simp? [f1]
    refine (fseq_nx (ρ' := [some (.d (.scr (ns.map D.int))), some (.d (partD rungs r)), some (.d (.lst (natD [0, 0, 2, 2, 1]))), some (.d (.lst ([(false, 0), (false, 0), (false, 2), (false, 2), (false, 1)].map tokD))), some (.m 1), some (wi (S1 : Nat)), none, none, none, none, none, none, none, none, none]) (μ' := [.lst s0.l, .lst d1.l]) ?j3).trans ?k3
    case j3 =>
      unfold partD
      generalize rungs.map prD = P at x2 ⊢
      simp? [x2]
    refine (fseq_nx (ρ' := [some (.d (.scr (ns.map D.int))), some (.d (partD rungs r)), some (.d (.lst RL)), some (.d (.lst ([(false, 0), (false, 0), (false, 2), (false, 2), (false, 1)].map tokD))), some (.m 1), some (wi (S1 : Nat)), none, none, none, none, none, none, none, none, none]) (μ' := [.lst s0.l, .lst s2.l]) ?j4).trans ?k4
    case j4 =>
      generalize partD rungs r = pd
      generalize [(false, 0), (false, 0), (false, 2), (false, 2), (false, 1)].map tokD = U0
      generalize natD [0, 0, 2, 2, 1] = R0
      simp? [e9, x3, x4]
    generalize partD rungs r = pd at x5 ⊢
    generalize [(false, 0), (false, 0), (false, 2), (false, 2), (false, 1)].map tokD = U0
    simp? [f2, x5]
  · have c' : ¬ (0 : Int) < (ns.length : Nat) := by omega
    refine law_run (front _ ?_) (μ := [])
    have e5 := law_enda (K := K) (sc := .scr (ns.map D.int)) (row := [0, 0, 2, 2, 1]) (us := [(false, 0), (false, 0), (false, 2), (false, 2), (false, 1)]) tb0 (by simp) (by decide +kernel) ⟨_, rfl, _, rfl, _, rfl, _, rfl, _, rfl, rfl⟩
    unfold B_law_3
    refine (fseq_nx ?o1).trans e5
    case o1 => simp? [List.length_map, c']
end K29

set_option Elab.async false
set_option linter.all false
set_option maxRecDepth 100000
set_option maxHeartbeats 4000000
namespace K29
open PySem L2 Evl DL FR
abbrev AlY : Type := He.AlD × Bool
def hkY (n : Nat) : PySem.W.Hook where
  α := AlY
  obs := fun s => (He5.obsAG n fa fn s.heap.get?, exB (He.frG s.heap.get? (He5.asA s.heap.get? n)))
  val := fun _ => (He5.valA fn, true)
  says := fun _ h => ∃ K : PySem.W.Frag, K.In h ∧ He5.SaysA fa fn K ∧ exB K = true
  of := fun _ _ e => ⟨_, He.frG_in, congrArg (fun z : AlY => z.1) e, congrArg (fun z : AlY => z.2) e⟩
  keeps := fun _ _ _ ⟨K, hK, c⟩ k => ⟨K, PySem.W.Frag.In.keeps hK k, c⟩
abbrev R : PySem.W.OpenRow := PySem.W.OpenLaw.row PySem.Challenge.rw_keptpictures_k29_whole_least_parse
def ob (s : PySem.W.SharedT) : AlY := (He5.obsAG 6 fa fn (HandSHeadRun.getT s), exB (He.frG (HandSHeadRun.getT s) (He5.asA (HandSHeadRun.getT s) 6)))
theorem ob_eq (s : PySem.W.SharedT) : ob s = (hkY 6).obs s.abs := by
  have e : HandSHeadRun.getT s = s.abs.heap.get? := funext fun a => HandSHeadRun.getT_eq s a
  unfold ob
  rw [e]
  rfl
def names : List PySem.Str := (["_wall", "least_tokens", "price", "fewest_bits", "number_before", "bits_of", "KeepError", "BadTable", "NoRung", "Table", "entries_of", "can_be_table", "are_complete", "rung_starts", "codewords", "_law_drawer", "_law_draw", "_law_pick", "_law_modulus", "_law_wide"] : List PySem.Str) ++ (["_law_ladder", "_law_complete", "_law_some_tokens", "_law_int", "_law_same", "_law_dealt", "_law_any_table", "_law_coding_table", "_law_total", "_law_run_row", "_law_size", "_law_bits_of", "_law_longest", "_law_least", "_law_wins"] : List PySem.Str)
theorem run (w : World) : HandSHeadRun.RunEq R (PySem.W.view R.prog [40]) (hkY 6) ob 3000 names w := by
  intro os
  kernel_rfl
theorem at_law {K : PySem.W.Frag} {w : World} {mg : Str → Option Value} {h : Heap} {f : Addr} (T : Txt K mg h) (hfa : mg ("law" : Str) = some (.ref f)) : LamX.LawAtS PySem.Challenge.rw_keptpictures_k29_whole_least_parse w K (L2.CX PySem.Challenge.rw_keptpictures_k29_whole_least_parse.prog w) 11 63 "script" mg f h := by
  obtain ⟨fd, hb, hF⟩ := ok_law (P := PySem.Challenge.rw_keptpictures_k29_whole_least_parse.prog) (w := w) T
  have e := hfa.symm.trans (g_law T)
  cases e
  refine ⟨fd, [], toSp K (fnFS (He.ga K) (F_law K)), (fun p hp => nomatch hp), (fun p hp => nomatch hp), (fun p hp => nomatch hp), hb, fun H a ns hl hn1 hn2 hS => ?_, fun base _ _ _ => hF base⟩
  refine ⟨⟨H, H, H, []⟩, [], [.d (.scr (ns.map D.int))], fun x μ => x = wb true, noX, rfl, ⟨.refl _, .refl _, List.nodup_nil, rfl, (fun k a o h => by simp at h), (fun a h => nomatch h)⟩, .cons (.dat (At.scr hS ints_ats)) .nil, ?_, fun w' μ' x v s ok hx e => ?_, fun _ _ _ _ _ _ _ _ r => r.elim⟩
  · exact ⟨_, law_true K ns hl, rfl⟩
  · subst e
    cases hx
    rfl
end K29
open PySem PySem.W PySem.Calls PyProof.Rows
theorem PySem.Challenge.cw_keptpictures_k29_whole_least_parse_holds : PySem.Challenge.rw_keptpictures_k29_whole_least_parse.Holds := by
  w_on; o_law
  refine HandSHeadRun.head_any (r := OpenLaw.row PySem.Challenge.rw_keptpictures_k29_whole_least_parse) (q := view (OpenLaw.row PySem.Challenge.rw_keptpictures_k29_whole_least_parse).prog [40]) (H := K29.hkY 6) (ob := K29.ob) (M := 3000) (loose := K29.names) (d := HandSHeadRun.topDef (OpenLaw.row PySem.Challenge.rw_keptpictures_k29_whole_least_parse).prog 40) (kwd := []) K29.ob_eq
    (by kernel_rfl) (fun s => by kernel_rfl) K29.run (by kernel_rfl) (by kernel_rfl) (by kernel_rfl) (by rfl) (by first | assumption | decide +kernel) (by decide +kernel) ⟨rfl, rfl, rfl, rfl, rfl, by decide +kernel⟩ ?hw ?hc
  case hw => w_witness2
  case hc =>
    refine LamX.walk_ofTsE (l := PySem.Challenge.rw_keptpictures_k29_whole_least_parse) (n := 63) (k := 11) (x := "script") (CX := fun w => L2.CX PySem.Challenge.rw_keptpictures_k29_whole_least_parse.prog w) rfl (by decide) (by kernel_rfl) ⟨rfl, by decide, by decide⟩ ?F (fun w H s e s' z => by
      obtain ⟨_, _, _, _, _, _, _, _, _, _, _, _, z⟩ := z
      exact z)
    intro w mg fa h Y G hmg0
    obtain ⟨K, KX, c, x⟩ := Y
    have hmg : mg ("law" : PySem.Str) = some (.ref fa) := by
      have e : (HandSHeadRun.topDef (OpenLaw.row PySem.Challenge.rw_keptpictures_k29_whole_least_parse).prog 40).name = ("law" : PySem.Str) := by kernel_rfl
      rw [← e]
      exact hmg0
    exact ⟨K, KX, K29.at_law ⟨c, x, KX, G⟩ hmg⟩

