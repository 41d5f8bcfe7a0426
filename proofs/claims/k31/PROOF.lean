import PyProof.Rows.All
import Wide.All
import OpenK.AllK
import Wide.FinOn
import HandS.ForMost
import HandS.Exc
import HandS.TryOnly
import HandS.ExcOwn
import HandS.WordsExc
import HandS.Flow
import HandS.TupAny
import HandS.IsInst
import HandS.Wide
import HandS.WideBits
import HandS.Style
import HandS.Defaults
import HandS.RevRange
import HandS.FStr
import HandS.More
import HandS.SetFor
import HandS.Strs
import HandS.SortInts
import HandS.Star
import HandS.Conv
import HandS.MakeKwOnly
import HandS.Small
import HandS.Text
import HandS.RaiseMore
import KE.IntTextLaws
import HandS.DictComp
import PyProof.AutoSeq1
import PySem.Challenge.RW_wordways_k31_letters_of_steps
set_option Elab.async false
set_option linter.all false
set_option maxRecDepth 100000
set_option autoImplicit false
set_option maxHeartbeats 1000000
namespace DL
open PySem PySem.Spec L2
open PyProof.Rows hiding St

/-! ### data, cells, results -/
inductive D where
  | non | bl (b : Bool) | int (i : Int) | str (x : Str)
  | tup (xs : List D) | lst (xs : List D) | ro (xs : List D) | ptr (n : Nat)
  deriving Inhabited
inductive Cell where
  | lst (ds : List D) | obj (nm : Str) (fs : List (Str × D)) | dK (kvs : List (Key × D)) | dT (kvs : List (List Key × D))
abbrev MS := List Cell
abbrev Env := List (Option D)
/-- an exception: its class's name, what its field holds, the slots where it was raised -/
structure Exc where
  c : Str
  a : Option D
  env : Env
inductive Res (α : Type) where
  | bad | ok (a : α) (ms : MS) | exc (x : Exc) (ms : MS)
def Res.bind {α β : Type} (r : Res α) (k : α → MS → Res β) : Res β := match r with
  | .bad => .bad
  | .ok a ms => k a ms
  | .exc x ms => .exc x ms
@[simp] theorem bind_ok {α β : Type} (a : α) (ms : MS) (k : α → MS → Res β) : (Res.ok a ms).bind k = k a ms := rfl
@[simp] theorem bind_bad {α β : Type} (k : α → MS → Res β) : (Res.bad : Res α).bind k = .bad := rfl
@[simp] theorem bind_exc {α β : Type} (x : Exc) (ms : MS) (k : α → MS → Res β) : (Res.exc x ms : Res α).bind k = .exc x ms := rfl
theorem bind_assoc {α β γ : Type} (r : Res α) (k : α → MS → Res β) (l : β → MS → Res γ) : (r.bind k).bind l = r.bind fun a ms => (k a ms).bind l := by
  cases r <;> rfl

/-- the addresses of the cells; those that no data bears (a list that is being made) -/
structure Ct where
  a : List Addr
  f : List Addr
def Ct.no (ι : Ct) (p : Addr) : Prop := p ∉ ι.a ∧ p ∉ ι.f
def Ct.push (ι : Ct) (p : Addr) : Ct := ⟨ι.a ++ [p], ι.f⟩
/-! ### what a value bears -/
mutual
def Rp (K : PySem.W.Frag) (ι : Ct) (H : Hp) : D → V → Prop
  | .non, v => v = .non
  | .bl b, v => v = .bl b
  | .int i, v => v = .int i
  | .str x, v => v = .str x
  | .tup ds, v => ∃ p xs, v = .ref p ∧ SqT K H p xs ∧ Rps K ι H ds xs
  | .lst ds, v => ∃ p xs, v = .ref p ∧ H p = some (.lst xs) ∧ ι.no p ∧ Rps K ι H ds xs
  | .ro ds, v => ∃ p xs, v = .ref p ∧ ((∃ o, H p = some (.frz o (.lst xs))) ∨ (∃ (o : Obj) (its : Array Value) (n : Nat), K.lookup p = some o ∧ o.cls = .type "list" ∧ o.dict = none ∧ o.data = .seq its n ∧ its.size ≤ sizeLine ∧ Vals xs its.toList)) ∧ Rps K ι H ds xs
  | .ptr n, v => ∃ p, v = .ref p ∧ ι.a[n]? = some p
def Rps (K : PySem.W.Frag) (ι : Ct) (H : Hp) : List D → List V → Prop
  | [], vs => vs = []
  | d :: ds, vs => ∃ v r, vs = v :: r ∧ Rp K ι H d v ∧ Rps K ι H ds r
end
structure Le (ι : Ct) (H : Hp) (ι' : Ct) (H' : Hp) : Prop where
  pre : ∃ e, ι'.a = ι.a ++ e
  same : ι'.f = ι.f
  tup : ∀ p xs, H p = some (.tup xs) → H' p = some (.tup xs)
  frz : ∀ p o u, H p = some (.frz o u) → H' p = some (.frz o u)
  lst : ∀ p xs, H p = some (.lst xs) → ι.no p → H' p = some (.lst xs) ∧ ι'.no p
  keep : ∀ p, p ∈ ι.f → H' p = H p
section
variable {K : PySem.W.Frag} {ι ι' ι2 : Ct} {H H' H2 : Hp}
theorem Le.refl : Le ι H ι H := ⟨⟨[], by simp⟩, rfl, fun _ _ h => h, fun _ _ _ h => h, fun _ _ h n => ⟨h, n⟩, fun _ _ => rfl⟩
theorem Le.trans (a : Le ι H ι' H') (b : Le ι' H' ι2 H2) : Le ι H ι2 H2 := by
  obtain ⟨e, h1⟩ := a.pre
  obtain ⟨e2, h2⟩ := b.pre
  exact ⟨⟨e ++ e2, by rw [h2, h1, List.append_assoc]⟩, b.same.trans a.same, fun p xs h => b.tup p xs (a.tup p xs h), fun p o u h => b.frz p o u (a.frz p o u h), fun p xs h n => b.lst p xs (a.lst p xs h n).1 (a.lst p xs h n).2,
    fun p h => (b.keep p (by rw [a.same]; exact h)).trans (a.keep p h)⟩
theorem Le.at (a : Le ι H ι' H') {n : Nat} {p : Addr} (h : ι.a[n]? = some p) : ι'.a[n]? = some p := by
  obtain ⟨e, q⟩ := a.pre
  rw [q, List.getElem?_append_left (List.getElem?_eq_some_iff.mp h).1]
  exact h
theorem Le.sqT (l : Le ι H ι' H') {p : Addr} {xs : List V} (h : SqT K H p xs) : SqT K H' p xs := by
  rcases h with (h | ⟨o, h⟩) | h
  · exact .inl (.inl (l.tup _ _ h))
  · exact .inl (.inr ⟨o, l.frz _ _ _ h⟩)
  · exact .inr h
mutual
theorem Rp.mono (l : Le ι H ι' H') : ∀ (d : D) (v : V), Rp K ι H d v → Rp K ι' H' d v
  | .non, _, h => h
  | .bl _, _, h => h
  | .int _, _, h => h
  | .str _, _, h => h
  | .tup ds, v, h => by
    obtain ⟨p, xs, e, q, r⟩ := h
    exact ⟨p, xs, e, l.sqT q, Rps.mono l ds xs r⟩
  | .lst ds, v, h => by
    obtain ⟨p, xs, e, q, n, r⟩ := h
    exact ⟨p, xs, e, (l.lst p xs q n).1, (l.lst p xs q n).2, Rps.mono l ds xs r⟩
  | .ro ds, v, h => by
    obtain ⟨p, xs, e, q, r⟩ := h
    refine ⟨p, xs, e, ?_, Rps.mono l ds xs r⟩
    rcases q with ⟨o, q⟩ | q
    · exact .inl ⟨o, l.frz _ _ _ q⟩
    · exact .inr q
  | .ptr n, v, h => by
    obtain ⟨p, e, q⟩ := h
    exact ⟨p, e, l.at q⟩
theorem Rps.mono (l : Le ι H ι' H') : ∀ (ds : List D) (vs : List V), Rps K ι H ds vs → Rps K ι' H' ds vs
  | [], _, h => h
  | d :: ds, _, h => by
    obtain ⟨v, r, e, h1, h2⟩ := h
    exact ⟨v, r, e, Rp.mono l d v h1, Rps.mono l ds r h2⟩
end
theorem Rps.length : ∀ {ds : List D} {vs : List V}, Rps K ι H ds vs → vs.length = ds.length
  | [], _, h => by cases h; rfl
  | d :: ds, _, h => by
    obtain ⟨v, r, rfl, _, h2⟩ := h
    rw [List.length_cons, List.length_cons, Rps.length h2]
theorem Rps.get : ∀ {ds : List D} {vs : List V} {i : Nat} {d : D}, Rps K ι H ds vs → ds[i]? = some d → ∃ v, vs[i]? = some v ∧ Rp K ι H d v
  | [], _, _, _, _, h => by simp at h
  | d :: ds, _, 0, _, h, e => by
    obtain ⟨v, r, rfl, h1, _⟩ := h
    simp at e
    subst e
    exact ⟨v, rfl, h1⟩
  | d :: ds, _, i + 1, _, h, e => by
    obtain ⟨v, r, rfl, _, h2⟩ := h
    obtain ⟨w, e1, e2⟩ := Rps.get (i := i) h2 (by simpa using e)
    exact ⟨w, by simpa using e1, e2⟩
theorem Rps.append : ∀ {ds es : List D} {vs us : List V}, Rps K ι H ds vs → Rps K ι H es us → Rps K ι H (ds ++ es) (vs ++ us)
  | [], _, _, _, h, h' => by cases h; exact h'
  | d :: ds, _, _, _, h, h' => by
    obtain ⟨v, r, rfl, h1, h2⟩ := h
    exact ⟨v, r ++ _, rfl, h1, Rps.append h2 h'⟩
theorem Rps.take : ∀ {ds : List D} {vs : List V} (n : Nat), Rps K ι H ds vs → Rps K ι H (ds.take n) (vs.take n)
  | _, _, 0, _ => rfl
  | [], _, n + 1, h => by cases h; rfl
  | d :: ds, _, n + 1, h => by
    obtain ⟨v, r, rfl, h1, h2⟩ := h
    exact ⟨v, r.take n, rfl, h1, Rps.take n h2⟩
theorem Rps.drop : ∀ {ds : List D} {vs : List V} (n : Nat), Rps K ι H ds vs → Rps K ι H (ds.drop n) (vs.drop n)
  | _, _, 0, h => h
  | [], _, n + 1, h => by cases h; rfl
  | d :: ds, _, n + 1, h => by
    obtain ⟨v, r, rfl, h1, h2⟩ := h
    exact Rps.drop n h2
theorem Rps.set : ∀ {ds : List D} {vs : List V} {d : D} {v : V} (i : Nat), Rps K ι H ds vs → Rp K ι H d v → Rps K ι H (ds.set i d) (vs.set i v)
  | [], _, _, _, _, h, _ => by cases h; rfl
  | d :: ds, _, _, _, 0, h, h' => by
    obtain ⟨v, r, rfl, h1, h2⟩ := h
    exact ⟨_, r, rfl, h', h2⟩
  | d :: ds, _, _, _, i + 1, h, h' => by
    obtain ⟨v, r, rfl, h1, h2⟩ := h
    exact ⟨v, _, rfl, h1, Rps.set i h2 h'⟩
theorem Rps.one {d : D} {vs : List V} (h : Rps K ι H [d] vs) : ∃ v, vs = [v] ∧ Rp K ι H d v := by
  obtain ⟨v, r, rfl, h1, h2⟩ := h
  cases h2
  exact ⟨v, rfl, h1⟩
theorem Rps.mk1 {d : D} {v : V} (h : Rp K ι H d v) : Rps K ι H [d] [v] := ⟨v, [], rfl, h, rfl⟩
theorem Rps.ints : ∀ {ns : List Int} {vs : List V}, Rps K ι H (ns.map D.int) vs → vs = ns.map V.int
  | [], _, h => h
  | n :: ns, _, h => by
    obtain ⟨v, r, rfl, h1, h2⟩ := h
    rw [Rps.ints h2, (show v = V.int n from h1)]
    rfl
theorem Rps.ofInts : ∀ {ns : List Int}, Rps K ι H (ns.map D.int) (ns.map V.int)
  | [] => rfl
  | n :: ns => ⟨_, _, rfl, rfl, Rps.ofInts⟩
theorem Rps.strs : ∀ {ns : List Str} {vs : List V}, Rps K ι H (ns.map D.str) vs → vs = ns.map V.str
  | [], _, h => h
  | n :: ns, _, h => by
    obtain ⟨v, r, rfl, h1, h2⟩ := h
    rw [Rps.strs h2, (show v = V.str n from h1)]
    rfl
theorem Rps.bls : ∀ {ns : List Bool} {vs : List V}, Rps K ι H (ns.map D.bl) vs → vs = ns.map V.bl
  | [], _, h => h
  | n :: ns, _, h => by
    obtain ⟨v, r, rfl, h1, h2⟩ := h
    rw [Rps.bls h2, (show v = V.bl n from h1)]
    rfl
theorem Rps.reverse {ds : List D} {vs : List V} (h : Rps K ι H ds vs) : Rps K ι H ds.reverse vs.reverse := by
  induction ds generalizing vs with
  | nil => cases h; rfl
  | cons d ds ih =>
    obtain ⟨v, r, rfl, h1, h2⟩ := h
    rw [List.reverse_cons, List.reverse_cons]
    exact Rps.append (ih h2) (Rps.mk1 h1)
theorem Rps.dropLast {ds : List D} {vs : List V} (h : Rps K ι H ds vs) : Rps K ι H ds.dropLast vs.dropLast := by
  rw [List.dropLast_eq_take, List.dropLast_eq_take, h.length]
  exact h.take _

/-! ### the cells -/
def CellOk (K : PySem.W.Frag) (ι : Ct) (H : Hp) (p : Addr) : Cell → Prop
  | .lst ds => ∃ xs, H p = some (.lst xs) ∧ Rps K ι H ds xs
  | .obj nm fs => ∃ C dx vs, PySem.W.nsIn K mainGlobals nm = some (some (.ref C)) ∧ H p = some (.ins C dx vs) ∧ vs.map (·.1) = fs.map (·.1) ∧ Rps K ι H (fs.map (·.2)) (vs.map (·.2))
  | .dK fs => ∃ vs, H p = some (.dK vs) ∧ vs.map (·.1) = fs.map (·.1) ∧ Rps K ι H (fs.map (·.2)) (vs.map (·.2))
  | .dT fs => ∃ vs, H p = some (.dT vs) ∧ vs.map (·.1) = fs.map (·.1) ∧ Rps K ι H (fs.map (·.2)) (vs.map (·.2))
theorem CellOk.mono (l : Le ι H ι' H') {p : Addr} (e : H' p = H p) : ∀ {c : Cell}, CellOk K ι H p c → CellOk K ι' H' p c
  | .lst ds, h => by
    obtain ⟨xs, h1, h2⟩ := h
    exact ⟨xs, by rw [e]; exact h1, Rps.mono l _ _ h2⟩
  | .obj nm fs, h => by
    obtain ⟨C, dx, vs, h0, h1, h2, h3⟩ := h
    exact ⟨C, dx, vs, h0, by rw [e]; exact h1, h2, Rps.mono l _ _ h3⟩
  | .dK fs, h => by
    obtain ⟨vs, h1, h2, h3⟩ := h
    exact ⟨vs, by rw [e]; exact h1, h2, Rps.mono l _ _ h3⟩
  | .dT fs, h => by
    obtain ⟨vs, h1, h2, h3⟩ := h
    exact ⟨vs, by rw [e]; exact h1, h2, Rps.mono l _ _ h3⟩
theorem CellOk.there {p : Addr} {c : Cell} (h : CellOk K ι H p c) : H p ≠ none ∧ (∀ xs, H p ≠ some (.tup xs)) ∧ ∀ o u, H p ≠ some (.frz o u) := by
  cases c with
  | lst ds =>
    obtain ⟨xs, h1, _⟩ := h
    exact ⟨(fun e => by rw [h1] at e; cases e), (fun _ e => by rw [h1] at e; cases e), (fun _ _ e => by rw [h1] at e; cases e)⟩
  | obj nm fs =>
    obtain ⟨C, dx, vs, _, h1, _⟩ := h
    exact ⟨(fun e => by rw [h1] at e; cases e), (fun _ e => by rw [h1] at e; cases e), (fun _ _ e => by rw [h1] at e; cases e)⟩
  | dK fs =>
    obtain ⟨vs, h1, _⟩ := h
    exact ⟨(fun e => by rw [h1] at e; cases e), (fun _ e => by rw [h1] at e; cases e), (fun _ _ e => by rw [h1] at e; cases e)⟩
  | dT fs =>
    obtain ⟨vs, h1, _⟩ := h
    exact ⟨(fun e => by rw [h1] at e; cases e), (fun _ e => by rw [h1] at e; cases e), (fun _ _ e => by rw [h1] at e; cases e)⟩
structure Rel (K : PySem.W.Frag) (ι : Ct) (H : Hp) (ms : MS) : Prop where
  len : ι.a.length = ms.length
  nd : ι.a.Nodup
  ok : ∀ (n : Nat) (p : Addr) (c : Cell), ι.a[n]? = some p → ms[n]? = some c → CellOk K ι H p c
  fb : ∀ p, p ∈ ι.f → p ∉ ι.a ∧ ∃ xs, H p = some (.lst xs)
variable {ms ms' : MS} {p : Addr} {o : HO}
theorem Rel.cell (R : Rel K ι H ms) {n : Nat} {p : Addr} (h : ι.a[n]? = some p) : ∃ c, ms[n]? = some c ∧ CellOk K ι H p c := by
  have hn : n < ms.length := by rw [← R.len]; exact (List.getElem?_eq_some_iff.mp h).1
  exact ⟨ms[n], List.getElem?_eq_getElem hn, R.ok n p _ h (List.getElem?_eq_getElem hn)⟩
theorem Rel.addr (R : Rel K ι H ms) {n : Nat} {c : Cell} (h : ms[n]? = some c) : ∃ p, ι.a[n]? = some p ∧ CellOk K ι H p c := by
  have hn : n < ι.a.length := by rw [R.len]; exact (List.getElem?_eq_some_iff.mp h).1
  exact ⟨ι.a[n], List.getElem?_eq_getElem hn, R.ok n _ c (List.getElem?_eq_getElem hn) h⟩
theorem Rel.fresh (R : Rel K ι H ms) (hp : H p = none) : ι.no p := ⟨fun hm => by
  obtain ⟨n, hn⟩ := List.getElem?_of_mem hm
  obtain ⟨c, _, h⟩ := R.cell hn
  exact h.there.1 hp, fun hm => by
  obtain ⟨_, xs, e⟩ := R.fb p hm
  rw [hp] at e
  cases e⟩
theorem Le.new (R : Rel K ι H ms) (hp : H p = none) : Le ι H ι (upd H p o) :=
  ⟨⟨[], by simp⟩, rfl, fun q xs h => by rw [upd_ne (ne_of_none h hp)]; exact h, fun q _ _ h => by rw [upd_ne (ne_of_none h hp)]; exact h, fun q xs h n => ⟨by rw [upd_ne (ne_of_none h hp)]; exact h, n⟩,
    fun q hq => upd_ne fun (e : q = p) => (R.fresh hp).2 (e ▸ hq)⟩
theorem Le.newM (R : Rel K ι H ms) (hp : H p = none) : Le ι H (ι.push p) (upd H p o) :=
  ⟨⟨[p], rfl⟩, rfl, fun q xs h => by rw [upd_ne (ne_of_none h hp)]; exact h, fun q _ _ h => by rw [upd_ne (ne_of_none h hp)]; exact h, fun q xs h n => ⟨by rw [upd_ne (ne_of_none h hp)]; exact h, fun hm => by
    rcases List.mem_append.mp hm with z | z
    · exact n.1 z
    · exact ne_of_none h hp (by simpa using z), n.2⟩, fun q hq => upd_ne fun (e : q = p) => (R.fresh hp).2 (e ▸ hq)⟩
theorem Rel.fb_upd (R : Rel K ι H ms) (n : ι.no p) : ∀ q, q ∈ ι.f → ∃ xs, upd H p o q = some (.lst xs) := fun q hq => by
  obtain ⟨_, xs, e⟩ := R.fb q hq
  exact ⟨xs, by rw [upd_ne fun (z : q = p) => n.2 (z ▸ hq)]; exact e⟩
theorem Rel.new (R : Rel K ι H ms) (hp : H p = none) : Rel K ι (upd H p o) ms :=
  ⟨R.len, R.nd, fun n q c h1 h2 => (R.ok n q c h1 h2).mono (Le.new R hp) (upd_ne fun (e : q = p) => (R.ok n q c h1 h2).there.1 (e ▸ hp)), fun q hq => ⟨(R.fb q hq).1, R.fb_upd (R.fresh hp) q hq⟩⟩
theorem Rel.newM (R : Rel K ι H ms) (hp : H p = none) {c : Cell} (hc : CellOk K (ι.push p) (upd H p o) p c) : Rel K (ι.push p) (upd H p o) (ms ++ [c]) := by
  refine ⟨by simp [Ct.push, R.len], ?_, fun n q d h1 h2 => ?_, fun q hq => ⟨fun hm => ?_, R.fb_upd (R.fresh hp) q hq⟩⟩
  · show (ι.a ++ [p]).Nodup
    rw [List.nodup_append]
    refine ⟨R.nd, by simp, fun a ha b hb e => ?_⟩
    have : b = p := by simpa using hb
    subst this
    subst e
    exact (R.fresh hp).1 ha
  · have h1' : (ι.a ++ [p])[n]? = some q := h1
    by_cases hn : n < ι.a.length
    · rw [List.getElem?_append_left hn] at h1'
      rw [List.getElem?_append_left (by rw [← R.len]; exact hn)] at h2
      exact (R.ok n q d h1' h2).mono (Le.newM R hp) (upd_ne fun (e : q = p) => (R.ok n q d h1' h2).there.1 (e ▸ hp))
    · rw [List.getElem?_append_right (by omega)] at h1'
      rw [List.getElem?_append_right (by rw [← R.len]; omega), ← R.len] at h2
      have hz : n - ι.a.length = 0 := by
        have := (List.getElem?_eq_some_iff.mp h1').1
        simp only [List.length_cons, List.length_nil] at this
        omega
      rw [hz] at h1' h2
      simp at h1' h2
      subst h1'
      subst h2
      exact hc
  · rcases List.mem_append.mp hm with z | z
    · exact (R.fb q hq).1 z
    · exact (R.fresh hp).2 (by
        have e : q = p := by simpa using z
        exact e ▸ hq)
theorem Rel.notf (R : Rel K ι H ms) {n : Nat} (hn : ι.a[n]? = some p) : p ∉ ι.f := fun hm => (R.fb p hm).1 (List.mem_of_getElem? hn)
theorem Le.write (R : Rel K ι H ms) {n : Nat} (hn : ι.a[n]? = some p) : Le ι H ι (upd H p o) := by
  obtain ⟨c, _, hc⟩ := R.cell hn
  refine ⟨⟨[], by simp⟩, rfl, fun q xs h => ?_, fun q ob u h => ?_, fun q xs h nq => ⟨?_, nq⟩, fun q hq => upd_ne fun (e : q = p) => R.notf hn (e ▸ hq)⟩
  · rw [upd_ne]
    · exact h
    · rintro rfl
      exact hc.there.2.1 _ h
  · rw [upd_ne]
    · exact h
    · rintro rfl
      exact hc.there.2.2 _ _ h
  · rw [upd_ne]
    · exact h
    · rintro rfl
      exact nq.1 (List.mem_of_getElem? hn)
theorem Rel.write (R : Rel K ι H ms) {n : Nat} {c : Cell} (hn : ι.a[n]? = some p) (hc : CellOk K ι (upd H p o) p c) : Rel K ι (upd H p o) (ms.set n c) := by
  refine ⟨by simp [R.len], R.nd, fun m q d h1 h2 => ?_, fun q hq => ⟨(R.fb q hq).1, ?_⟩⟩
  · by_cases e : m = n
    · subst e
      rw [hn] at h1
      cases h1
      have hm : m < ms.length := by rw [← R.len]; exact (List.getElem?_eq_some_iff.mp hn).1
      rw [List.getElem?_set_self hm] at h2
      cases h2
      exact hc
    · rw [List.getElem?_set_ne (Ne.symm e)] at h2
      exact (R.ok m q d h1 h2).mono (Le.write R hn) (upd_ne fun (z : q = p) => e (nd_ix R.nd h1 (z ▸ hn)))
  · obtain ⟨_, xs, e⟩ := R.fb q hq
    exact ⟨xs, by rw [upd_ne fun (z : q = p) => R.notf hn (z ▸ hq)]; exact e⟩
/-! a list that is being made: no data bears it -/
def Ct.ban (ι : Ct) (p : Addr) : Ct := ⟨ι.a, p :: ι.f⟩
theorem Ct.ban_no {p q : Addr} : (ι.ban p).no q ↔ ι.no q ∧ q ≠ p := by
  unfold Ct.ban Ct.no
  simp only [List.mem_cons, not_or]
  exact ⟨fun h => ⟨⟨h.1, h.2.2⟩, h.2.1⟩, fun h => ⟨h.1.1, h.2, h.1.2⟩⟩
mutual
/-- what is borne is borne too where a new list is put at p, or where the list at p is another one -/
theorem Rp.ban {p : Addr} (l : ∀ q xs, H q = some (.lst xs) → ι.no q → H' q = some (.lst xs) ∧ ι'.no q) (t : ∀ q xs, H q = some (.tup xs) → H' q = some (.tup xs)) (z : ∀ q o u, H q = some (.frz o u) → H' q = some (.frz o u)) (a : ∀ (n : Nat) (q : Addr), ι.a[n]? = some q → ι'.a[n]? = some q) : ∀ (d : D) (v : V), Rp K ι H d v → Rp K ι' H' d v
  | .non, _, h => h
  | .bl _, _, h => h
  | .int _, _, h => h
  | .str _, _, h => h
  | .tup ds, v, h => by
    obtain ⟨q, xs, e, hq, r⟩ := h
    refine ⟨q, xs, e, ?_, Rps.ban (p := p) l t z a ds xs r⟩
    rcases hq with (hq | ⟨o, hq⟩) | hq
    · exact .inl (.inl (t _ _ hq))
    · exact .inl (.inr ⟨o, z _ _ _ hq⟩)
    · exact .inr hq
  | .lst ds, v, h => by
    obtain ⟨q, xs, e, hq, n, r⟩ := h
    exact ⟨q, xs, e, (l q xs hq n).1, (l q xs hq n).2, Rps.ban (p := p) l t z a ds xs r⟩
  | .ro ds, v, h => by
    obtain ⟨q, xs, e, hq, r⟩ := h
    refine ⟨q, xs, e, ?_, Rps.ban (p := p) l t z a ds xs r⟩
    rcases hq with ⟨o, hq⟩ | hq
    · exact .inl ⟨o, z _ _ _ hq⟩
    · exact .inr hq
  | .ptr n, v, h => by
    obtain ⟨q, e, hq⟩ := h
    exact ⟨q, e, a n q hq⟩
theorem Rps.ban {p : Addr} (l : ∀ q xs, H q = some (.lst xs) → ι.no q → H' q = some (.lst xs) ∧ ι'.no q) (t : ∀ q xs, H q = some (.tup xs) → H' q = some (.tup xs)) (z : ∀ q o u, H q = some (.frz o u) → H' q = some (.frz o u)) (a : ∀ (n : Nat) (q : Addr), ι.a[n]? = some q → ι'.a[n]? = some q) : ∀ (ds : List D) (vs : List V), Rps K ι H ds vs → Rps K ι' H' ds vs
  | [], _, h => h
  | d :: ds, _, h => by
    obtain ⟨v, r, e, h1, h2⟩ := h
    exact ⟨v, r, e, Rp.ban (p := p) l t z a d v h1, Rps.ban (p := p) l t z a ds r h2⟩
end
end

/-! ### readings by data -/
abbrev EW := Exc → Ct → Hp → Prop
def EnvOk (K : PySem.W.Frag) (ι : Ct) (H : Hp) (env : Env) (σ : St) : Prop :=
  σ.length = env.length ∧ ∀ (i : Nat) (d : D), env[i]? = some (some d) → ∃ v : V, σ[i]? = some (some v) ∧ Rp K ι H d v
theorem EnvOk.mono {K : PySem.W.Frag} {ι ι' : Ct} {H H' : Hp} {env : Env} {σ : St} (l : Le ι H ι' H') (h : EnvOk K ι H env σ) : EnvOk K ι' H' env σ :=
  ⟨h.1, fun i d e => let ⟨v, a, b⟩ := h.2 i d e; ⟨v, a, Rp.mono l d v b⟩⟩
theorem EnvOk.set {K : PySem.W.Frag} {ι : Ct} {H : Hp} {env : Env} {σ : St} (h : EnvOk K ι H env σ) {d : D} {v : V} (r : Rp K ι H d v) (i : Nat) : EnvOk K ι H (env.set i (some d)) (σ.set i (some v)) := by
  refine ⟨by simp [h.1], fun j e hj => ?_⟩
  by_cases q : j = i
  · subst q
    have hl : j < env.length := by
      have := (List.getElem?_eq_some_iff.mp hj).1
      simpa using this
    rw [List.getElem?_set_self hl] at hj
    cases hj
    exact ⟨v, by rw [List.getElem?_set_self (by rw [h.1]; exact hl)], r⟩
  · rw [List.getElem?_set_ne (Ne.symm q)] at hj
    rw [List.getElem?_set_ne (Ne.symm q)]
    exact h.2 j e hj

/-- an outcome: R how the result a is borne by b -/
def Out {α β : Type} (K : PySem.W.Frag) (E : EW) (R : Ct → Hp → α → β → Prop) (ι : Ct) (H : Hp) (r : Res α) (Q : β → Hp → Prop) : Prop := match r with
  | .bad => False
  | .ok a ms' => ∀ b ι' H', Rel K ι' H' ms' → Le ι H ι' H' → R ι' H' a b → Q b H'
  | .exc x ms' => ∀ ι' H', Rel K ι' H' ms' → Le ι H ι' H' → E x ι' H'
theorem Out.from {α β : Type} {K : PySem.W.Frag} {E : EW} {R : Ct → Hp → α → β → Prop} {ι ι' : Ct} {H H' : Hp} {r : Res α} {Q : β → Hp → Prop} (l : Le ι H ι' H') (o : Out K E R ι H r Q) : Out K E R ι' H' r Q := by
  cases r with
  | bad => exact o
  | ok a ms => exact fun b ι2 H2 r2 l2 q => o b ι2 H2 r2 (l.trans l2) q
  | exc x ms => exact fun ι2 H2 r2 l2 => o ι2 H2 r2 (l.trans l2)
def tR {α β : Type} (K : PySem.W.Frag) (E : EW) (R : Ct → Hp → α → β → Prop) (f : Env → MS → Res α) : St → Hp → (β → Hp → Prop) → Prop := fun σ H Q =>
  ∃ ι env ms, Rel K ι H ms ∧ EnvOk K ι H env σ ∧ Out K E R ι H (f env ms) Q
abbrev tD (K : PySem.W.Frag) (E : EW) (f : Env → MS → Res D) : TE := tR K E (Rp K) f
abbrev REq {α : Type} : Ct → Hp → α → α → Prop := fun _ _ a b => b = a
abbrev tT (K : PySem.W.Frag) (E : EW) (f : Env → MS → Res Bool) : TT := tR K E REq f
abbrev tAr (K : PySem.W.Frag) (E : EW) (f : Env → MS → Res (List D)) : TA := tR K E (Rps K) f
abbrev tOI (K : PySem.W.Frag) (E : EW) (f : Env → MS → Res (Option Int)) : TO := tR K E REq f
/-- the state behind a part -/
structure Bh {α β : Type} (K : PySem.W.Frag) (R : Ct → Hp → α → β → Prop) (ι : Ct) (H : Hp) (env : Env) (σ : St) (ι1 : Ct) (H1 : Hp) (ms1 : MS) (a : α) (b : β) : Prop where
  rel : Rel K ι1 H1 ms1
  env : EnvOk K ι1 H1 env σ
  le : Le ι H ι1 H1
  r : R ι1 H1 a b
theorem tR_seq {α β γ δ : Type} {K : PySem.W.Frag} {E : EW} {R : Ct → Hp → α → β → Prop} {R2 : Ct → Hp → γ → δ → Prop} {f : Env → MS → Res α} {k : α → MS → Res γ} {σ : St} {ι : Ct} {H : Hp} {env : Env} {ms : MS} {Q : δ → Hp → Prop} {Q' : β → Hp → Prop}
    (r : Rel K ι H ms) (ev : EnvOk K ι H env σ) (o : Out K E R2 ι H ((f env ms).bind k) Q)
    (h : ∀ ι1 H1 ms1 a b, Bh K R ι H env σ ι1 H1 ms1 a b → Out K E R2 ι1 H1 (k a ms1) Q → Q' b H1) : tR K E R f σ H Q' := by
  refine ⟨ι, env, ms, r, ev, ?_⟩
  cases e : f env ms with
  | bad => rw [e] at o; exact o
  | ok a ms1 =>
    rw [e] at o
    exact fun b ι1 H1 r1 l1 q1 => h ι1 H1 ms1 a b ⟨r1, ev.mono l1, l1, q1⟩ (Out.from l1 o)
  | exc x ms1 => rw [e] at o; exact o

theorem PE.conv {X : Cx} {e : Expr} {t t' : TE} (h : PE X e t) (c : ∀ σ H Q, t' σ H Q → t σ H Q) : PE X e t' := ⟨fun pins s σ H Q I q => h.run pins s σ H Q I (c σ H Q q)⟩
theorem PT.conv {X : Cx} {e : Expr} {t t' : TT} (h : PT X e t) (c : ∀ σ H Q, t' σ H Q → t σ H Q) : PT X e t' := ⟨fun pins s σ H Q I q => h.run pins s σ H Q I (c σ H Q q)⟩
theorem PA.conv {X : Cx} {e : List Expr} {t t' : TA} (h : PA X e t) (c : ∀ σ H Q, t' σ H Q → t σ H Q) : PA X e t' := ⟨fun pos pins s σ H Q I q => h.run pos pins s σ H Q I (c σ H Q q)⟩
theorem PS.conv {X : Cx} {e : Stmt} {t t' : TS} (h : PS X e t) (c : ∀ σ H D, t' D σ H → t D σ H) : PS X e t' := ⟨fun pins s σ H D I q => h.run pins s σ H D I (c σ H D q)⟩
theorem PSs.conv {X : Cx} {e : List Stmt} {t t' : TS} (h : PSs X e t) (c : ∀ σ H D, t' D σ H → t D σ H) : PSs X e t' := ⟨fun pins s σ H D I q => h.run pins s σ H D I (c σ H D q)⟩
end DL

set_option maxHeartbeats 1000000
namespace DL
open PySem PySem.Spec L2
open PyProof.Rows hiding St

/-! ### meanings of expressions -/
@[simp] def varE (i : Nat) (env : Env) (ms : MS) : Res D := match env[i]? with
  | some (some d) => .ok d ms
  | _ => .bad
@[simp] def cE (d : D) (_ : Env) (ms : MS) : Res D := .ok d ms
@[simp] def binE (f g : Env → MS → Res D) (p : D → D → MS → Res D) (env : Env) (ms : MS) : Res D := (f env ms).bind fun a ms1 => (g env ms1).bind fun b ms2 => p a b ms2
@[simp] def unE (f : Env → MS → Res D) (p : D → MS → Res D) (env : Env) (ms : MS) : Res D := (f env ms).bind p
@[simp] def nilA (_ : Env) (ms : MS) : Res (List D) := .ok [] ms
@[simp] def consA (f : Env → MS → Res D) (g : Env → MS → Res (List D)) (env : Env) (ms : MS) : Res (List D) := (f env ms).bind fun a ms1 => (g env ms1).bind fun r ms2 => .ok (a :: r) ms2
@[simp] def appE (g : Env → MS → Res (List D)) (p : List D → MS → Res D) (env : Env) (ms : MS) : Res D := (g env ms).bind p
@[simp] def valT (f : Env → MS → Res D) (env : Env) (ms : MS) : Res Bool := (f env ms).bind fun d ms1 => match d with
  | .bl b => .ok b ms1
  | _ => .bad

section
variable {X : Cx} {E : EW}
abbrev DE (X : Cx) (E : EW) (e : Expr) (f : Env → MS → Res D) : Prop := PE X e (tD X.K E f)
abbrev DT (X : Cx) (E : EW) (e : Expr) (f : Env → MS → Res Bool) : Prop := PT X e (tT X.K E f)
abbrev DA (X : Cx) (E : EW) (es : List Expr) (f : Env → MS → Res (List D)) : Prop := PA X es (tAr X.K E f)

theorem d_var {i : Nat} {e : Expr} (h : PE X e (tVar i)) : DE X E e (varE i) := PE.conv h fun σ H Q ⟨ι, env, ms, r, ev, o⟩ => by
  unfold varE at o
  cases q : env[i]? with
  | none => rw [q] at o; exact o.elim
  | some d =>
    cases d with
    | none => rw [q] at o; exact o.elim
    | some d =>
      rw [q] at o
      obtain ⟨v, e1, e2⟩ := ev.2 i d q
      exact ⟨v, e1, o v ι H r .refl e2⟩
theorem d_c {e : Expr} {v : V} {d : D} (h : PE X e (tC v)) (hr : ∀ ι H, Rp X.K ι H d v) : DE X E e (cE d) := PE.conv h fun σ H Q ⟨ι, env, ms, r, ev, o⟩ => o v ι H r .refl (hr ι H)
theorem d_int {i j pos} : DE X E (.Constant (.int i) j pos) (cE (.int i)) := d_c pe_int fun _ _ => rfl
theorem d_bl {i j pos} : DE X E (.Constant (.bool i) j pos) (cE (.bl i)) := d_c pe_bl fun _ _ => rfl
theorem d_non {j pos} : DE X E (.Constant .none j pos) (cE .non) := d_c pe_non fun _ _ => rfl
theorem d_str {i j pos} : DE X E (.Constant (.str i) j pos) (cE (.str i)) := d_c pe_str fun _ _ => rfl

/-- an operation of two values -/
abbrev P2 (K : PySem.W.Frag) (E : EW) (r : R2) (p : D → D → MS → Res D) : Prop :=
  ∀ (ι : Ct) (H : Hp) (ms : MS) (a b : D) (x y : V) (Q : VK), Rel K ι H ms → Rp K ι H a x → Rp K ι H b y → Out K E (Rp K) ι H (p a b ms) Q → r x y H Q
theorem two {f g : Env → MS → Res D} {p : D → D → MS → Res D} {r : R2} {K : PySem.W.Frag} (hp : P2 K E r p) {σ : St} {H : Hp} {Q : VK} (h : tD K E (binE f g p) σ H Q) : tOp r (tD K E f) (tD K E g) σ H Q := by
  obtain ⟨ι, env, ms, r0, ev, o⟩ := h
  refine tR_seq r0 ev o fun ι1 H1 ms1 a x B1 o1 => ?_
  refine tR_seq B1.rel B1.env o1 fun ι2 H2 ms2 b y B2 o2 => ?_
  exact hp ι2 H2 ms2 a b x y Q B2.rel (Rp.mono B2.le _ _ B1.r) B2.r o2
theorem d_op {op : Operator} {r : R2} {p : D → D → MS → Res D} {a b : Expr} {f g : Env → MS → Res D} {pos : Pos} (ho : OpR X (binaryOp op) r) (hp : P2 X.K E r p) (ha : DE X E a f) (hb : DE X E b g) : DE X E (.BinOp a op b pos) (binE f g p) :=
  PE.conv (pe_op ho ha hb) fun _ _ _ h => two hp h
theorem d_cmp {op : CmpOp} {r : R2} {p : D → D → MS → Res D} {a b : Expr} {f g : Env → MS → Res D} {pos : Pos} (ho : OpR X (compareOp op) r) (hp : P2 X.K E r p) (ha : DE X E a f) (hb : DE X E b g) (hm : behindInMarks op b = false) : DE X E (.Compare a [op] [b] pos) (binE f g p) :=
  PE.conv (pe_cmpR ho ha hb hm) fun _ _ _ h => two hp h
theorem val_test {f : Env → MS → Res D} {K : PySem.W.Frag} {σ : St} {H : Hp} {Q : Bool → Hp → Prop} (h : tT K E (valT f) σ H Q) : tTest (tD K E f) σ H Q := by
  obtain ⟨ι, env, ms, r0, ev, o⟩ := h
  refine tR_seq r0 ev o fun ι1 H1 ms1 a x B1 o1 => ?_
  cases a with
  | bl k => exact ⟨k, B1.r, o1 k ι1 H1 B1.rel .refl rfl⟩
  | _ => exact o1.elim
theorem PE.convT {e : Expr} {t : TE} {t' : TT} (h : PT X e (tTest t)) (c : ∀ σ H Q, t' σ H Q → tTest t σ H Q) : PT X e t' := PT.conv h c
/-- an expression whose value is a truth, as a test -/
theorem t_val {e : Expr} {f : Env → MS → Res D} (h : DE X E e f) (he : ∀ whole, isTrue e X.env whole = (do let v ← whole; standAt e.pos; holding [v] (truthy v)) := by intro _; rfl) : DT X E e (valT f) :=
  PT.conv (pt_val h he) fun _ _ _ q => val_test q
theorem t_cmp {op : CmpOp} {r : R2} {p : D → D → MS → Res D} {a b : Expr} {f g : Env → MS → Res D} {pos : Pos} (ho : OpR X (compareOp op) r) (hp : P2 X.K E r p) (ha : DE X E a f) (hb : DE X E b g) (hm : behindInMarks op b = false) : DT X E (.Compare a [op] [b] pos) (valT (binE f g p)) :=
  PT.conv (pt_cmpR ho ha hb hm) fun σ H Q q => by
    obtain ⟨ι, env, ms, r0, ev, o⟩ := q
    refine two hp (σ := σ) (H := H) ?_
    refine tR_seq (k := fun d ms1 => (match d with | .bl b => Res.ok b ms1 | _ => .bad)) r0 ev o fun ι1 H1 ms1 a x B1 o1 => ?_
    cases a with
    | bl k => exact ⟨k, B1.r, o1 k ι1 H1 B1.rel .refl rfl⟩
    | _ => exact o1.elim
end

/-! ### and, or, not; a if t else b -/
@[simp] def andT (f g : Env → MS → Res Bool) (env : Env) (ms : MS) : Res Bool := (f env ms).bind fun b ms1 => if b = true then g env ms1 else .ok false ms1
@[simp] def orT (f g : Env → MS → Res Bool) (env : Env) (ms : MS) : Res Bool := (f env ms).bind fun b ms1 => if b = true then .ok true ms1 else g env ms1
@[simp] def notT (f : Env → MS → Res Bool) (env : Env) (ms : MS) : Res Bool := (f env ms).bind fun b ms1 => .ok (!b) ms1
@[simp] def iteE (t : Env → MS → Res Bool) (f g : Env → MS → Res D) (env : Env) (ms : MS) : Res D := (t env ms).bind fun b ms1 => if b = true then f env ms1 else g env ms1
/-- the value of an and, an or whose parts (but the last one) are truths; not of a truth -/
@[simp] def andE (f g : Env → MS → Res D) (env : Env) (ms : MS) : Res D := (f env ms).bind fun d ms1 => match d with
  | .bl b => if b = true then g env ms1 else .ok (.bl false) ms1
  | _ => .bad
@[simp] def orE (f g : Env → MS → Res D) (env : Env) (ms : MS) : Res D := (f env ms).bind fun d ms1 => match d with
  | .bl b => if b = true then .ok (.bl true) ms1 else g env ms1
  | _ => .bad
@[simp] def notE (f : Env → MS → Res D) (env : Env) (ms : MS) : Res D := (f env ms).bind fun d ms1 => match d with
  | .bl b => .ok (.bl (!b)) ms1
  | _ => .bad
section
variable {X : Cx} {E : EW} {a b c : Expr} {rest : List Expr} {pos : Pos} {f g h' : Env → MS → Res Bool} {fe ge : Env → MS → Res D}
abbrev DW (X : Cx) (E : EW) (e : Expr) (f : Env → MS → Res Bool) : Prop := PW X e (tT X.K E f)
theorem PW.conv {e : Expr} {t t' : TT} (h : PW X e t) (c : ∀ σ H Q, t' σ H Q → t σ H Q) : PW X e t' := ⟨fun wh pins s σ H Q I q => h.run wh pins s σ H Q I (c σ H Q q)⟩
theorem w_and1 (ha : DT X E a f) : DW X E (.BoolOp .And [a] pos) f := pw_and1 ha
theorem w_or1 (ha : DT X E a f) : DW X E (.BoolOp .Or [a] pos) f := pw_or1 ha
theorem w_and (ha : DT X E a f) (hb : DW X E (.BoolOp .And (b :: rest) pos) g) : DW X E (.BoolOp .And (a :: b :: rest) pos) (andT f g) :=
  PW.conv (pw_and ha hb) fun σ H Q ⟨ι, env, ms, r0, ev, o⟩ => by
    refine tR_seq r0 ev o fun ι1 H1 ms1 k x B1 o1 => ?_
    obtain rfl : x = k := B1.r
    cases x with
    | true => exact ⟨ι1, env, ms1, B1.rel, B1.env, o1⟩
    | false => exact o1 false ι1 H1 B1.rel .refl rfl
theorem w_or (ha : DT X E a f) (hb : DW X E (.BoolOp .Or (b :: rest) pos) g) : DW X E (.BoolOp .Or (a :: b :: rest) pos) (orT f g) :=
  PW.conv (pw_or ha hb) fun σ H Q ⟨ι, env, ms, r0, ev, o⟩ => by
    refine tR_seq r0 ev o fun ι1 H1 ms1 k x B1 o1 => ?_
    obtain rfl : x = k := B1.r
    cases x with
    | true => exact o1 true ι1 H1 B1.rel .refl rfl
    | false => exact ⟨ι1, env, ms1, B1.rel, B1.env, o1⟩
theorem t_w {e : Expr} (h : DW X E e f) : DT X E e f := PW.pt h
theorem t_not (ha : DT X E a f) : DT X E (.UnaryOp .Not a pos) (notT f) :=
  PT.conv (pt_not ha) fun σ H Q ⟨ι, env, ms, r0, ev, o⟩ => tR_seq r0 ev o fun ι1 H1 ms1 k x B1 o1 => by
    obtain rfl : x = k := B1.r
    exact o1 _ ι1 H1 B1.rel .refl rfl
theorem d_ite (hc : DT X E c f) (ha : DE X E a fe) (hb : DE X E b ge) : DE X E (.IfExp c a b pos) (iteE f fe ge) :=
  PE.conv (pe_ifExp hc ha hb) fun σ H Q ⟨ι, env, ms, r0, ev, o⟩ => by
    refine tR_seq r0 ev o fun ι1 H1 ms1 k x B1 o1 => ?_
    obtain rfl : x = k := B1.r
    cases x with
    | true => exact ⟨ι1, env, ms1, B1.rel, B1.env, o1⟩
    | false => exact ⟨ι1, env, ms1, B1.rel, B1.env, o1⟩
theorem d_one {op} (ha : DE X E a fe) : DE X E (.BoolOp op [a] pos) fe := pe_one ha
theorem d_and (ha : DE X E a fe) (hb : DE X E (.BoolOp .And (b :: rest) pos) ge) : DE X E (.BoolOp .And (a :: b :: rest) pos) (andE fe ge) :=
  PE.conv (pe_and ha hb) fun σ H Q ⟨ι, env, ms, r0, ev, o⟩ => by
    refine tR_seq r0 ev o fun ι1 H1 ms1 d x B1 o1 => ?_
    cases d with
    | bl k =>
      refine ⟨k, B1.r, ?_⟩
      cases k with
      | true => exact ⟨ι1, env, ms1, B1.rel, B1.env, o1⟩
      | false => exact o1 _ ι1 H1 B1.rel .refl rfl
    | _ => exact o1.elim
theorem d_or (ha : DE X E a fe) (hb : DE X E (.BoolOp .Or (b :: rest) pos) ge) : DE X E (.BoolOp .Or (a :: b :: rest) pos) (orE fe ge) :=
  PE.conv (pe_or ha hb) fun σ H Q ⟨ι, env, ms, r0, ev, o⟩ => by
    refine tR_seq r0 ev o fun ι1 H1 ms1 d x B1 o1 => ?_
    cases d with
    | bl k =>
      refine ⟨k, B1.r, ?_⟩
      cases k with
      | true => exact o1 _ ι1 H1 B1.rel .refl rfl
      | false => exact ⟨ι1, env, ms1, B1.rel, B1.env, o1⟩
    | _ => exact o1.elim
theorem d_not (ha : DE X E a fe) : DE X E (.UnaryOp .Not a pos) (notE fe) :=
  PE.conv (pe_not ha) fun σ H Q ⟨ι, env, ms, r0, ev, o⟩ => by
    refine tR_seq r0 ev o fun ι1 H1 ms1 d x B1 o1 => ?_
    cases d with
    | bl k => exact ⟨k, B1.r, o1 _ ι1 H1 B1.rel .refl rfl⟩
    | _ => exact o1.elim
end

/-! ### lists and tuples as data -/
@[simp] def seqOf (ms : MS) : D → Option (List D)
  | .tup ds => some ds
  | .lst ds => some ds
  | .ro ds => some ds
  | .ptr n => match ms[n]? with
    | some (.lst ds) => some ds
    | _ => none
  | _ => none
@[simp] def lstOf (ms : MS) : D → Option (List D)
  | .lst ds => some ds
  | .ptr n => match ms[n]? with
    | some (.lst ds) => some ds
    | _ => none
  | _ => none
@[simp] def rlOf (ms : MS) : D → Option (List D)
  | .lst ds => some ds
  | .ro ds => some ds
  | .ptr n => match ms[n]? with
    | some (.lst ds) => some ds
    | _ => none
  | _ => none
section
variable {K : PySem.W.Frag} {ι : Ct} {H : Hp} {ms : MS}
theorem Rel.lst (R : Rel K ι H ms) {d : D} {ds : List D} {v : V} (e : lstOf ms d = some ds) (h : Rp K ι H d v) : ∃ p xs, v = .ref p ∧ Rps K ι H ds xs ∧ H p = some (.lst xs) := by
  cases d with
  | lst es => cases e; obtain ⟨p, xs, rfl, q, _, r⟩ := h; exact ⟨p, xs, rfl, r, q⟩
  | ptr n =>
    obtain ⟨p, rfl, hn⟩ := h
    unfold lstOf at e
    cases q : ms[n]? with
    | none => simp only [q] at e; cases e
    | some c =>
      cases c with
      | lst es =>
        simp only [q] at e
        cases e
        obtain ⟨xs, h1, h2⟩ := R.ok n p _ hn q
        exact ⟨p, xs, rfl, h2, h1⟩
      | _ => simp only [q] at e; cases e
  | _ => cases e
theorem Rel.rl (R : Rel K ι H ms) {d : D} {ds : List D} {v : V} (e : rlOf ms d = some ds) (h : Rp K ι H d v) : ∃ p xs, v = .ref p ∧ Rps K ι H ds xs ∧ SqL K H p xs := by
  cases d with
  | lst es => cases e; obtain ⟨p, xs, rfl, q, _, r⟩ := h; exact ⟨p, xs, rfl, r, SqL.of q⟩
  | ro es =>
    cases e
    obtain ⟨p, xs, rfl, q, r⟩ := h
    refine ⟨p, xs, rfl, r, ?_⟩
    rcases q with ⟨o, q⟩ | q
    · exact .inl (.inr ⟨o, q⟩)
    · exact .inr q
  | ptr n =>
    obtain ⟨p, xs, h1, h2, h3⟩ := R.lst (d := .ptr n) (ds := ds) e h
    exact ⟨p, xs, h1, h2, SqL.of h3⟩
  | _ => cases e
theorem Rel.seq (R : Rel K ι H ms) {d : D} {ds : List D} {v : V} (e : seqOf ms d = some ds) (h : Rp K ι H d v) : ∃ p xs, v = .ref p ∧ Rps K ι H ds xs ∧ (SqL K H p xs ∨ SqT K H p xs) := by
  cases d with
  | tup es => cases e; obtain ⟨p, xs, rfl, q, r⟩ := h; exact ⟨p, xs, rfl, r, .inr q⟩
  | lst es => obtain ⟨p, xs, h1, h2, h3⟩ := R.rl (d := .lst es) (ds := ds) e h; exact ⟨p, xs, h1, h2, .inl h3⟩
  | ro es => obtain ⟨p, xs, h1, h2, h3⟩ := R.rl (d := .ro es) (ds := ds) e h; exact ⟨p, xs, h1, h2, .inl h3⟩
  | ptr n => obtain ⟨p, xs, h1, h2, h3⟩ := R.rl (d := .ptr n) (ds := ds) e h; exact ⟨p, xs, h1, h2, .inl h3⟩
  | _ => cases e
end
abbrev LIM : Nat := 16777216
theorem lim_eq : LIM = sizeLine := by rw [sizeLine_eq]

/-- a new pure tuple, a new pure list, a new list that may change -/
@[simp] def mkTup (ds : List D) (ms : MS) : Res D := if ds.length ≤ LIM then .ok (.tup ds) ms else .bad
@[simp] def mkLst (ds : List D) (ms : MS) : Res D := if ds.length ≤ LIM then .ok (.lst ds) ms else .bad
@[simp] def mkMut (ds : List D) (ms : MS) : Res D := if ds.length ≤ LIM then .ok (.ptr ms.length) (ms ++ [.lst ds]) else .bad
section
variable {K : PySem.W.Frag} {ι : Ct} {H : Hp} {ms : MS} {E : EW}
theorem mkTup_ok {ds : List D} {xs : List V} {Q : VK} (R : Rel K ι H ms) (r : Rps K ι H ds xs) (o : Out K E (Rp K) ι H (mkTup ds ms) Q) : xs.length ≤ sizeLine ∧ ∀ p, H p = none → Q (.ref p) (upd H p (.tup xs)) := by
  unfold mkTup at o
  split at o
  · rename_i h
    refine ⟨by rw [r.length, ← lim_eq]; exact h, fun p hp => ?_⟩
    exact o _ ι _ (R.new hp) (Le.new R hp) ⟨p, xs, rfl, SqT.of upd_same, Rps.mono (Le.new R hp) _ _ r⟩
  · exact o.elim
theorem mkLst_ok {ds : List D} {xs : List V} {Q : VK} (R : Rel K ι H ms) (r : Rps K ι H ds xs) (o : Out K E (Rp K) ι H (mkLst ds ms) Q) : xs.length ≤ sizeLine ∧ ∀ p, H p = none → Q (.ref p) (upd H p (.lst xs)) := by
  unfold mkLst at o
  split at o
  · rename_i h
    refine ⟨by rw [r.length, ← lim_eq]; exact h, fun p hp => ?_⟩
    exact o _ ι _ (R.new hp) (Le.new R hp) ⟨p, xs, rfl, upd_same, R.fresh hp, Rps.mono (Le.new R hp) _ _ r⟩
  · exact o.elim
theorem mkMut_ok {ds : List D} {xs : List V} {Q : VK} (R : Rel K ι H ms) (r : Rps K ι H ds xs) (o : Out K E (Rp K) ι H (mkMut ds ms) Q) : xs.length ≤ sizeLine ∧ ∀ p, H p = none → Q (.ref p) (upd H p (.lst xs)) := by
  unfold mkMut at o
  split at o
  · rename_i h
    refine ⟨by rw [r.length, ← lim_eq]; exact h, fun p hp => ?_⟩
    refine o _ (ι.push p) _ (R.newM hp ⟨xs, upd_same, Rps.mono (Le.newM R hp) _ _ r⟩) (Le.newM R hp) ⟨p, rfl, ?_⟩
    show (ι.a ++ [p])[ms.length]? = some p
    rw [← R.len, List.getElem?_append_right (Nat.le_refl _)]
    simp
  · exact o.elim
end

section
variable {X : Cx} {E : EW} {a b : Expr} {es : List Expr} {pos : Pos} {f g : Env → MS → Res D} {fs : Env → MS → Res (List D)}
theorem a_nil : DA X E [] nilA := PA.conv pa_nil fun σ H Q ⟨ι, env, ms, r0, ev, o⟩ => o [] ι H r0 .refl rfl
theorem a_cons (ha : DE X E a f) (hs : DA X E es fs) (he : starEach (a :: es) X.env = (false, eval a X.env) :: starEach es X.env := by rfl) : DA X E (a :: es) (consA f fs) :=
  PA.conv (pa_cons ha hs he) fun σ H Q ⟨ι, env, ms, r0, ev, o⟩ => by
    refine tR_seq r0 ev o fun ι1 H1 ms1 d x B1 o1 => ?_
    refine tR_seq B1.rel B1.env o1 fun ι2 H2 ms2 r xs B2 o2 => ?_
    exact o2 _ ι2 H2 B2.rel .refl ⟨x, xs, rfl, Rp.mono B2.le _ _ B1.r, B2.r⟩
theorem d_tup {x1} (h : DA X E es fs) : DE X E (.Tuple es x1 pos) (appE fs mkTup) :=
  PE.conv (pe_tup h) fun σ H Q ⟨ι, env, ms, r0, ev, o⟩ => tR_seq r0 ev o fun ι1 H1 ms1 d x B1 o1 => mkTup_ok B1.rel B1.r o1
theorem d_lst (h : DA X E es fs) : DE X E (.List es pos) (appE fs mkLst) :=
  PE.conv (pe_lst h) fun σ H Q ⟨ι, env, ms, r0, ev, o⟩ => tR_seq r0 ev o fun ι1 H1 ms1 d x B1 o1 => mkLst_ok B1.rel B1.r o1
theorem d_mut (h : DA X E es fs) : DE X E (.List es pos) (appE fs mkMut) :=
  PE.conv (pe_lst h) fun σ H Q ⟨ι, env, ms, r0, ev, o⟩ => tR_seq r0 ev o fun ι1 H1 ms1 d x B1 o1 => mkMut_ok B1.rel B1.r o1
end

/-! ### operators -/
/-- great bounds, by name -/
def BIG6 : Nat := 2 ^ 600
def BIG8 : Nat := 2 ^ 8000
def BIG1 : Nat := 2 ^ 1000
@[simp] def addD : D → D → MS → Res D
  | .int i, .int j, ms => .ok (.int (i + j)) ms
  | .str x, .str y, ms => if x.length + y.length ≤ LIM then .ok (.str (x ++ y)) ms else .bad
  | .tup xs, .tup ys, ms => mkTup (xs ++ ys) ms
  | a, b, ms => match lstOf ms a, lstOf ms b with
    | some xs, some ys => mkLst (xs ++ ys) ms
    | _, _ => .bad
@[simp] def addM : D → D → MS → Res D
  | a, b, ms => match lstOf ms a, lstOf ms b with
    | some xs, some ys => mkMut (xs ++ ys) ms
    | _, _ => .bad
def intD (c : Int → Int → Bool) (g : Int → Int → D) : D → D → MS → Res D
  | .int i, .int j, ms => if c i j = true then .ok (g i j) ms else .bad
  | _, _, _ => .bad
def yes2 (_ _ : Int) : Bool := true
@[simp] def subD : D → D → MS → Res D
  | .int i, .int j, ms => .ok (.int (i - j)) ms
  | _, _, _ => .bad
@[simp] def mulD : D → D → MS → Res D
  | .int i, .int j, ms => if i.natAbs < 2 ^ 60 ∨ j.natAbs < 2 ^ 60 ∨ (i.natAbs < BIG1 ∧ j.natAbs < BIG1) then .ok (.int (i * j)) ms else .bad
  | _, _, _ => .bad
@[simp] def modD : D → D → MS → Res D
  | .int i, .int j, ms => if 0 < j then .ok (.int (i % j)) ms else .bad
  | _, _, _ => .bad
@[simp] def divD : D → D → MS → Res D
  | .int i, .int j, ms => if 0 < j ∧ (j.natAbs < 2 ^ 60 ∨ j.natAbs < BIG8) then .ok (.int (i / j)) ms else .bad
  | _, _, _ => .bad
@[simp] def powD : D → D → MS → Res D
  | .int i, .int j, ms => if 0 ≤ j ∧ j ≤ 1000 ∧ (i.natAbs < 2 ^ 60 ∨ i.natAbs < BIG6) then .ok (.int (i ^ j.toNat)) ms else .bad
  | _, _, _ => .bad
@[simp] def ltD : D → D → MS → Res D
  | .int i, .int j, ms => .ok (.bl (decide (i < j))) ms
  | _, _, _ => .bad
@[simp] def leD : D → D → MS → Res D
  | .int i, .int j, ms => .ok (.bl (decide (i ≤ j))) ms
  | _, _, _ => .bad
@[simp] def gtD : D → D → MS → Res D
  | .int i, .int j, ms => .ok (.bl (decide (j < i))) ms
  | _, _, _ => .bad
@[simp] def geD : D → D → MS → Res D
  | .int i, .int j, ms => .ok (.bl (decide (j ≤ i))) ms
  | _, _, _ => .bad
section
variable {X : Cx} {E : EW} {K : PySem.W.Frag}
theorem p_add : P2 K E (fun x y H Q => (∃ i j, x = .int i ∧ y = .int j ∧ Q (.int (i + j)) H) ∨ (∃ i j, x = .str i ∧ y = .str j ∧ i.length + j.length ≤ sizeLine ∧ Q (.str (i ++ j)) H) ∨ rCatA K x y H Q ∨ rCat x y H Q) addD := by
  intro ι H ms a b x y Q R ra rb o
  have lists : ∀ xs ys, lstOf ms a = some xs → lstOf ms b = some ys → Out K E (Rp K) ι H (mkLst (xs ++ ys) ms) Q → rCat x y H Q := fun xs ys ea eb o => by
    obtain ⟨p, us, rfl, r1, h1⟩ := R.lst ea ra
    obtain ⟨q, ws, rfl, r2, h2⟩ := R.lst eb rb
    obtain ⟨z, k⟩ := mkLst_ok R (r1.append r2) o
    exact ⟨p, q, us, ws, rfl, rfl, h1, h2, by rw [← List.length_append]; exact z, k⟩
  have gen : (match lstOf ms a, lstOf ms b with | some xs, some ys => Out K E (Rp K) ι H (mkLst (xs ++ ys) ms) Q | _, _ => False) → rCat x y H Q := fun o => by
    cases ea : lstOf ms a with
    | none => simp only [ea] at o
    | some xs =>
      cases eb : lstOf ms b with
      | none => simp only [ea, eb] at o
      | some ys =>
        simp only [ea, eb] at o
        exact lists xs ys ea eb o
  have gen' : Out K E (Rp K) ι H (match lstOf ms a, lstOf ms b with | some xs, some ys => mkLst (xs ++ ys) ms | _, _ => .bad) Q → rCat x y H Q := fun o => gen (by
    split at o
    · exact o
    · exact o.elim)
  cases a with
  | int i =>
    cases b with
    | int j => exact .inl ⟨i, j, ra, rb, o _ ι H R .refl rfl⟩
    | _ => exact .inr (.inr (.inr (gen' o)))
  | str i =>
    cases b with
    | str j =>
      have o' : Out K E (Rp K) ι H (if i.length + j.length ≤ LIM then .ok (.str (i ++ j)) ms else .bad) Q := o
      by_cases h : i.length + j.length ≤ LIM
      · rw [if_pos h] at o'
        exact .inr (.inl ⟨i, j, ra, rb, by rw [← lim_eq]; exact h, o' _ ι H R .refl rfl⟩)
      · rw [if_neg h] at o'
        exact o'.elim
    | _ => exact .inr (.inr (.inr (gen' o)))
  | tup ds =>
    cases b with
    | tup es =>
      obtain ⟨p, us, rfl, h1, r1⟩ := ra
      obtain ⟨q, ws, rfl, h2, r2⟩ := rb
      have o' : Out K E (Rp K) ι H (mkTup (ds ++ es) ms) Q := o
      obtain ⟨z, k⟩ := mkTup_ok R (r1.append r2) o'
      have hz : (ds ++ es).length ≤ LIM := by rw [← (r1.append r2).length]; rw [lim_eq]; exact z
      have o2 : ∀ b ι' H', Rel K ι' H' ms → Le ι H ι' H' → Rp K ι' H' (.tup (ds ++ es)) b → Q b H' := by
        unfold mkTup at o'
        rw [if_pos hz] at o'
        exact o'
      refine .inr (.inr (.inl ⟨p, q, us, ws, rfl, rfl, h1, h2, by rw [← List.length_append]; exact z, fun e => ?_, fun _ e => ?_, fun _ _ => k⟩))
      · subst e
        have : ds = [] := List.length_eq_zero_iff.mp (by rw [← r1.length]; rfl)
        subst this
        exact o2 _ ι H R .refl ⟨q, ws, rfl, h2, r2⟩
      · subst e
        have : es = [] := List.length_eq_zero_iff.mp (by rw [← r2.length]; rfl)
        subst this
        rw [List.append_nil] at o2
        exact o2 _ ι H R .refl ⟨p, us, rfl, h1, r1⟩
    | _ => exact .inr (.inr (.inr (gen' o)))
  | _ => exact .inr (.inr (.inr (gen' o)))
theorem p_addM : P2 K E rCat addM := by
  intro ι H ms a b x y Q R ra rb o
  unfold addM at o
  cases ea : lstOf ms a with
  | none => simp only [ea] at o; exact o.elim
  | some xs =>
    cases eb : lstOf ms b with
    | none => simp only [ea, eb] at o; exact o.elim
    | some ys =>
      simp only [ea, eb] at o
      obtain ⟨p, us, rfl, r1, h1⟩ := R.lst ea ra
      obtain ⟨q, ws, rfl, r2, h2⟩ := R.lst eb rb
      obtain ⟨z, k⟩ := mkMut_ok R (r1.append r2) o
      exact ⟨p, q, us, ws, rfl, rfl, h1, h2, by rw [← List.length_append]; exact z, k⟩
variable {a b : Expr} {f g : Env → MS → Res D} {pos : Pos}
theorem d_add (ha : DE X E a f) (hb : DE X E b g) : DE X E (.BinOp a .Add b pos) (binE f g addD) := d_op (op_add.or (op_add_str.or (op_catA.or op_cat))) p_add ha hb
theorem d_addM (ha : DE X E a f) (hb : DE X E b g) : DE X E (.BinOp a .Add b pos) (binE f g addM) := d_op op_cat p_addM ha hb
/-- two ints -/
theorem p_int {C : Int → Int → Prop} {G : Int → Int → V} {p : D → D → MS → Res D} (hp : ∀ (i j : Int) (ms : MS), (C i j ∧ ∃ d, p (.int i) (.int j) ms = .ok d ms ∧ ∀ ι H, Rp K ι H d (G i j)) ∨ p (.int i) (.int j) ms = .bad)
    (hn : ∀ a b ms, (∀ i, a ≠ .int i) ∨ (∀ i, b ≠ .int i) → p a b ms = .bad) : P2 K E (rI C G) p := by
  intro ι H ms a b x y Q R ra rb o
  by_cases ha : ∃ i, a = .int i
  · obtain ⟨i, rfl⟩ := ha
    by_cases hb : ∃ i, b = .int i
    · obtain ⟨j, rfl⟩ := hb
      rcases hp i j ms with ⟨c, d, e, r⟩ | e
      · rw [e] at o
        exact ⟨i, j, ra, rb, c, o _ ι H R .refl (r ι H)⟩
      · rw [e] at o; exact o.elim
    · rw [hn _ _ _ (.inr fun i e => hb ⟨i, e⟩)] at o; exact o.elim
  · rw [hn _ _ _ (.inl fun i e => ha ⟨i, e⟩)] at o; exact o.elim
theorem p_int0 {G : Int → Int → V} {p : D → D → MS → Res D} (hp : ∀ (i j : Int) (ms : MS), ∃ d, p (.int i) (.int j) ms = .ok d ms ∧ ∀ ι H, Rp K ι H d (G i j))
    (hn : ∀ a b ms, (∀ i, a ≠ .int i) ∨ (∀ i, b ≠ .int i) → p a b ms = .bad) : P2 K E (rI0 G) p := by
  intro ι H ms a b x y Q R ra rb o
  by_cases ha : ∃ i, a = .int i
  · obtain ⟨i, rfl⟩ := ha
    by_cases hb : ∃ i, b = .int i
    · obtain ⟨j, rfl⟩ := hb
      obtain ⟨d, e, r⟩ := hp i j ms
      rw [e] at o
      exact ⟨i, j, ra, rb, o _ ι H R .refl (r ι H)⟩
    · rw [hn _ _ _ (.inr fun i e => hb ⟨i, e⟩)] at o; exact o.elim
  · rw [hn _ _ _ (.inl fun i e => ha ⟨i, e⟩)] at o; exact o.elim
end
end DL

set_option maxHeartbeats 1000000
namespace DL
open PySem PySem.Spec L2
open PyProof.Rows hiding St

section
variable {X : Cx} {E : EW} {a b : Expr} {f g : Env → MS → Res D} {pos : Pos}
theorem nint1 {p : D → D → MS → Res D} (h : ∀ a b ms, (∀ i j, a = .int i → b = .int j → False) → p a b ms = .bad) : ∀ a b ms, (∀ i, a ≠ .int i) ∨ (∀ i, b ≠ .int i) → p a b ms = .bad := fun a b ms q => h a b ms fun i j e1 e2 => q.elim (fun z => z i e1) fun z => z j e2
theorem d_sub (ha : DE X E a f) (hb : DE X E b g) : DE X E (.BinOp a .Sub b pos) (binE f g subD) :=
  d_op op_sub (p_int0 (fun i j ms => ⟨_, rfl, fun _ _ => rfl⟩) (nint1 fun a b ms h => by cases a <;> cases b <;> first | rfl | exact (h _ _ rfl rfl).elim)) ha hb
def CMulA (i j : Int) : Prop := i.natAbs < 2 ^ 60 ∨ j.natAbs < 2 ^ 60 ∨ (i.natAbs < BIG1 ∧ j.natAbs < BIG1)
theorem op_mulA : OpR X (binaryOp .Mult) (rI CMulA fun i j => .int (i * j)) := opI fun i j _ _ _ _ _ hc q => by
  rcases hc with h | h | h
  · exact mul_int q (CMul.ok (.inl (by omega)))
  · exact mul_int q (CMul.ok (.inr (by omega)))
  · exact mul_int q (CMulW.ok (wide_mul (a := 1000) (b := 1000) h.1 h.2 (by decide) (by decide) (by decide)))
theorem d_mul (ha : DE X E a f) (hb : DE X E b g) : DE X E (.BinOp a .Mult b pos) (binE f g mulD) :=
  d_op op_mulA (p_int (fun i j ms => by
    unfold mulD
    by_cases h : i.natAbs < 2 ^ 60 ∨ j.natAbs < 2 ^ 60 ∨ (i.natAbs < BIG1 ∧ j.natAbs < BIG1)
    · exact .inl ⟨h, D.int (i * j), by simp only [if_pos h], fun _ _ => rfl⟩
    · exact .inr (by simp only [if_neg h])) (nint1 fun a b ms h => by cases a <;> cases b <;> first | rfl | exact (h _ _ rfl rfl).elim)) ha hb
theorem d_mod (ha : DE X E a f) (hb : DE X E b g) : DE X E (.BinOp a .Mod b pos) (binE f g modD) :=
  d_op op_mod (p_int (fun i j ms => by
    unfold modD
    by_cases h : 0 < j
    · exact .inl ⟨h, D.int (i % j), by simp only [if_pos h], fun _ _ => rfl⟩
    · exact .inr (by simp only [if_neg h])) (nint1 fun a b ms h => by cases a <;> cases b <;> first | rfl | exact (h _ _ rfl rfl).elim)) ha hb
theorem d_div (ha : DE X E a f) (hb : DE X E b g) : DE X E (.BinOp a .FloorDiv b pos) (binE f g divD) :=
  d_op op_fdivW (p_int (fun i j ms => by
    unfold divD
    by_cases h : 0 < j ∧ (j.natAbs < 2 ^ 60 ∨ j.natAbs < BIG8)
    · exact .inl ⟨h.2.elim (fun z => wide_div (b := 60) h.1 z (by decide) (by decide)) (fun z => wide_div (b := 8000) h.1 z (by decide) (by decide)), D.int (i / j), by simp only [if_pos h], fun _ _ => rfl⟩
    · exact .inr (by simp only [if_neg h])) (nint1 fun a b ms h => by cases a <;> cases b <;> first | rfl | exact (h _ _ rfl rfl).elim)) ha hb
def CPowW (i j : Int) : Prop := 0 ≤ j ∧ j ≤ 1000 ∧ (i.natAbs < 2 ^ 60 ∨ i.natAbs < BIG6)
theorem op_powW : OpR X (binaryOp .Pow) (rI CPowW fun i j => .int (i ^ j.toNat)) := opI fun i j _ _ _ _ _ hc q => by
  refine pow_int hc.1 ?_ q
  have hb : Builtin.Int.intBits i ≤ 600 := hc.2.2.elim (fun z => Nat.le_trans (intBits_le z) (by decide)) fun z => intBits_le (k := 600) z
  have h1 : (Builtin.Int.intBits i : Int) * j ≤ 600 * j := Int.mul_le_mul_of_nonneg_right (by omega) hc.1
  have := hc.2.1
  omega
theorem d_pow (ha : DE X E a f) (hb : DE X E b g) : DE X E (.BinOp a .Pow b pos) (binE f g powD) :=
  d_op op_powW (p_int (fun i j ms => by
    unfold powD
    by_cases h : 0 ≤ j ∧ j ≤ 1000 ∧ (i.natAbs < 2 ^ 60 ∨ i.natAbs < BIG6)
    · exact .inl ⟨h, D.int (i ^ j.toNat), by simp only [if_pos h], fun _ _ => rfl⟩
    · exact .inr (by simp only [if_neg h])) (nint1 fun a b ms h => by cases a <;> cases b <;> first | rfl | exact (h _ _ rfl rfl).elim)) ha hb
theorem q_lt : P2 X.K E (rI0 fun i j => .bl (decide (i < j))) ltD := p_int0 (fun i j ms => ⟨_, rfl, fun _ _ => rfl⟩) (nint1 fun a b ms h => by cases a <;> cases b <;> first | rfl | exact (h _ _ rfl rfl).elim)
theorem q_le : P2 X.K E (rI0 fun i j => .bl (decide (i ≤ j))) leD := p_int0 (fun i j ms => ⟨_, rfl, fun _ _ => rfl⟩) (nint1 fun a b ms h => by cases a <;> cases b <;> first | rfl | exact (h _ _ rfl rfl).elim)
theorem q_gt : P2 X.K E (rI0 fun i j => .bl (decide (j < i))) gtD := p_int0 (fun i j ms => ⟨_, rfl, fun _ _ => rfl⟩) (nint1 fun a b ms h => by cases a <;> cases b <;> first | rfl | exact (h _ _ rfl rfl).elim)
theorem q_ge : P2 X.K E (rI0 fun i j => .bl (decide (j ≤ i))) geD := p_int0 (fun i j ms => ⟨_, rfl, fun _ _ => rfl⟩) (nint1 fun a b ms h => by cases a <;> cases b <;> first | rfl | exact (h _ _ rfl rfl).elim)
end

/-! ### == of data -/
mutual
def pyD : D → Option PyData
  | .non => some .none
  | .bl b => some (.bool b)
  | .int i => some (.int i)
  | .str x => some (.str x)
  | .tup ds => (pyDs ds).map .tuple
  | .lst ds => (pyDs ds).map .list
  | .ro ds => (pyDs ds).map .list
  | .ptr _ => none
def pyDs : List D → Option (List PyData)
  | [] => some []
  | d :: ds => match pyD d, pyDs ds with
    | some p, some ps => some (p :: ps)
    | _, _ => none
end
def toPy (ms : MS) (d : D) : Option PyData := match d with
  | .ptr n => match ms[n]? with
    | some (.lst ds) => (pyDs ds).map .list
    | _ => none
  | d => pyD d
def eqG (a b : D) (ms : MS) : Res D := match toPy ms a, toPy ms b with
  | some p, some q => if (SeqAt.shaped p && SeqAt.shaped q) = true then .ok (.bl (PyData.eqv p q)) ms else .bad
  | _, _ => .bad
def neG (a b : D) (ms : MS) : Res D := match toPy ms a, toPy ms b with
  | some p, some q => if (SeqAt.shaped p && SeqAt.shaped q) = true then .ok (.bl (!PyData.eqv p q)) ms else .bad
  | _, _ => .bad
section
variable {K : PySem.W.Frag} {ι : Ct} {H : Hp} {ms : MS} {E : EW}
mutual
theorem dp_of : ∀ (d : D) (v : V) (q : PyData), pyD d = some q → Rp K ι H d v → Dp K H v q
  | .non, _, _, e, h => by cases e; cases h; exact .non
  | .bl b, _, _, e, h => by cases e; cases h; exact .bl b
  | .int i, _, _, e, h => by cases e; cases h; exact .int i
  | .str x, _, _, e, h => by cases e; cases h; exact .str x
  | .tup ds, _, _, e, h => by
    obtain ⟨p, xs, rfl, hq, r⟩ := h
    unfold pyD at e
    cases z : pyDs ds with
    | none => rw [z] at e; cases e
    | some ps => rw [z] at e; cases e; exact .tup hq (dps_of ds xs ps z r)
  | .lst ds, _, _, e, h => by
    obtain ⟨p, xs, rfl, hq, _, r⟩ := h
    unfold pyD at e
    cases z : pyDs ds with
    | none => rw [z] at e; cases e
    | some ps => rw [z] at e; cases e; exact .lst (SqL.of hq) (dps_of ds xs ps z r)
  | .ro ds, _, _, e, h => by
    obtain ⟨p, xs, rfl, hq, r⟩ := h
    unfold pyD at e
    cases z : pyDs ds with
    | none => rw [z] at e; cases e
    | some ps =>
      rw [z] at e
      cases e
      refine .lst ?_ (dps_of ds xs ps z r)
      rcases hq with ⟨o, q⟩ | q
      · exact .inl (.inr ⟨o, q⟩)
      · exact .inr q
  | .ptr _, _, _, e, _ => by cases e
theorem dps_of : ∀ (ds : List D) (vs : List V) (qs : List PyData), pyDs ds = some qs → Rps K ι H ds vs → DpAll K H vs qs
  | [], _, _, e, h => by cases e; cases h; exact .nil
  | d :: ds, _, _, e, h => by
    obtain ⟨v, r, rfl, h1, h2⟩ := h
    unfold pyDs at e
    cases z : pyD d with
    | none => rw [z] at e; cases e
    | some p =>
      cases z2 : pyDs ds with
      | none => rw [z, z2] at e; cases e
      | some ps => rw [z, z2] at e; cases e; exact .cons (dp_of d v p z h1) (dps_of ds r ps z2 h2)
end
theorem Rel.dp (R : Rel K ι H ms) {d : D} {v : V} {q : PyData} (e : toPy ms d = some q) (h : Rp K ι H d v) : Dp K H v q := by
  cases d with
  | ptr n =>
    obtain ⟨p, rfl, hn⟩ := h
    unfold toPy at e
    cases q' : ms[n]? with
    | none => simp only [q'] at e; cases e
    | some c =>
      cases c with
      | lst es =>
        simp only [q'] at e
        obtain ⟨xs, h1, h2⟩ := R.ok n p _ hn q'
        cases z : pyDs es with
        | none => rw [z] at e; cases e
        | some ps => rw [z] at e; cases e; exact .lst (SqL.of h1) (dps_of es xs ps z h2)
      | _ => simp only [q'] at e; cases e
  | _ => exact dp_of _ v q e h
theorem q_eqG : P2 K E (rEqD K) eqG := by
  intro ι H ms a b x y Q R ra rb o
  unfold eqG at o
  cases ea : toPy ms a with
  | none => simp only [ea] at o; exact o.elim
  | some p =>
    cases eb : toPy ms b with
    | none => simp only [ea, eb] at o; exact o.elim
    | some q =>
      simp only [ea, eb] at o
      split at o
      · rename_i hs
        rw [Bool.and_eq_true] at hs
        exact ⟨p, q, R.dp ea ra, R.dp eb rb, hs.1, hs.2, o _ ι H R .refl rfl⟩
      · exact o.elim
theorem q_neG : P2 K E (rNeD K) neG := by
  intro ι H ms a b x y Q R ra rb o
  unfold neG at o
  cases ea : toPy ms a with
  | none => simp only [ea] at o; exact o.elim
  | some p =>
    cases eb : toPy ms b with
    | none => simp only [ea, eb] at o; exact o.elim
    | some q =>
      simp only [ea, eb] at o
      split at o
      · rename_i hs
        rw [Bool.and_eq_true] at hs
        exact ⟨p, q, R.dp ea ra, R.dp eb rb, hs.1, hs.2, o _ ι H R .refl rfl⟩
      · exact o.elim
end

/-- == of two flat things of a kind, or of data at any depth -/
@[simp] def eqD : D → D → MS → Res D
  | .int i, .int j, ms => .ok (.bl (i == j)) ms
  | .bl i, .bl j, ms => .ok (.bl (i == j)) ms
  | .str i, .str j, ms => .ok (.bl (i == j)) ms
  | a, b, ms => eqG a b ms
@[simp] def neD : D → D → MS → Res D
  | .int i, .int j, ms => .ok (.bl (!(i == j))) ms
  | .bl i, .bl j, ms => .ok (.bl (!(i == j))) ms
  | .str i, .str j, ms => .ok (.bl (!(i == j))) ms
  | a, b, ms => neG a b ms
section
variable {K : PySem.W.Frag} {E : EW} {X : Cx}
theorem q_eq : P2 K E (fun x y H Q => rEq x y H Q ∨ rEqD K x y H Q) eqD := by
  intro ι H ms a b x y Q R ra rb o
  have g : Out K E (Rp K) ι H (eqG a b ms) Q → rEq x y H Q ∨ rEqD K x y H Q := fun o => .inr (q_eqG ι H ms a b x y Q R ra rb o)
  cases a with
  | int i =>
    cases b with
    | int j => cases ra; cases rb; exact .inl ⟨rfl, by rw [dec_int]; exact o _ ι H R .refl rfl⟩
    | _ => exact g o
  | bl i =>
    cases b with
    | bl j => cases ra; cases rb; exact .inl ⟨rfl, by rw [dec_bl]; exact o _ ι H R .refl rfl⟩
    | _ => exact g o
  | str i =>
    cases b with
    | str j => cases ra; cases rb; exact .inl ⟨rfl, by rw [dec_str]; exact o _ ι H R .refl rfl⟩
    | _ => exact g o
  | _ => exact g o
theorem q_ne : P2 K E (fun x y H Q => rNe x y H Q ∨ rNeD K x y H Q) neD := by
  intro ι H ms a b x y Q R ra rb o
  have g : Out K E (Rp K) ι H (neG a b ms) Q → rNe x y H Q ∨ rNeD K x y H Q := fun o => .inr (q_neG ι H ms a b x y Q R ra rb o)
  cases a with
  | int i =>
    cases b with
    | int j => cases ra; cases rb; exact .inl ⟨rfl, by rw [dec_int]; exact o _ ι H R .refl rfl⟩
    | _ => exact g o
  | bl i =>
    cases b with
    | bl j => cases ra; cases rb; exact .inl ⟨rfl, by rw [dec_bl]; exact o _ ι H R .refl rfl⟩
    | _ => exact g o
  | str i =>
    cases b with
    | str j => cases ra; cases rb; exact .inl ⟨rfl, by rw [dec_str]; exact o _ ι H R .refl rfl⟩
    | _ => exact g o
  | _ => exact g o
theorem op_eqA (hu : X.A.units + 64 < cLine) : OpR X (compareOp .Eq) (fun x y H Q => rEq x y H Q ∨ rEqD X.K x y H Q) := op_eq.or (op_eqD hu)
theorem op_neA (hu : X.A.units + 64 < cLine) : OpR X (compareOp .NotEq) (fun x y H Q => rNe x y H Q ∨ rNeD X.K x y H Q) := op_ne.or (op_neD hu)
end

/-! ### in, not in -/
def flatD : D → Bool
  | .non => true
  | .bl _ => true
  | .int _ => true
  | .str _ => true
  | _ => false
def flV : D → V
  | .non => .non
  | .bl b => .bl b
  | .int i => .int i
  | .str x => .str x
  | _ => .non
def hasD (a : D) (ds : List D) : Bool := ds.any fun d => eqV (flV d) (flV a)
@[simp] def inD (neg : Bool) (a b : D) (ms : MS) : Res D := match b with
  | .str z => match a with
    | .str x => if x.cps.size = 1 then .ok (.bl (if neg then !decide (x.cps.getD 0 0 ∈ z.cps.toList) else decide (x.cps.getD 0 0 ∈ z.cps.toList))) ms else .bad
    | _ => .bad
  | b => match seqOf ms b with
    | some ds => if (flatD a && ds.all flatD) = true then .ok (.bl (if neg then !hasD a ds else hasD a ds)) ms else .bad
    | none => .bad
section
variable {K : PySem.W.Frag} {ι : Ct} {H : Hp} {ms : MS} {E : EW}
theorem flV_of {d : D} {v : V} (f : flatD d = true) (h : Rp K ι H d v) : v = flV d ∧ flatV v = true := by
  cases d with
  | non => cases h; exact ⟨rfl, rfl⟩
  | bl b => cases h; exact ⟨rfl, rfl⟩
  | int i => cases h; exact ⟨rfl, rfl⟩
  | str x => cases h; exact ⟨rfl, rfl⟩
  | _ => exact absurd f Bool.false_ne_true
theorem flVs_of : ∀ {ds : List D} {vs : List V}, ds.all flatD = true → Rps K ι H ds vs → vs = ds.map flV ∧ vs.all flatV = true
  | [], _, _, h => by cases h; exact ⟨rfl, rfl⟩
  | d :: ds, _, f, h => by
    obtain ⟨v, r, rfl, h1, h2⟩ := h
    rw [List.all_cons, Bool.and_eq_true] at f
    obtain ⟨e1, e2⟩ := flV_of f.1 h1
    obtain ⟨e3, e4⟩ := flVs_of f.2 h2
    refine ⟨by rw [List.map_cons, ← e1, ← e3], ?_⟩
    rw [List.all_cons, e2, e4]
    rfl
theorem hasD_eq (a : D) (ds : List D) : inV (flV a) (ds.map flV) = hasD a ds := by
  unfold inV hasD
  rw [List.any_map]
  rfl
theorem one_sign {x : Str} (h : x.cps.size = 1) : x = ⟨#[x.cps.getD 0 0]⟩ := by
  obtain ⟨⟨l⟩⟩ := x
  match l, h with
  | [c], _ => rfl
theorem q_in (neg : Bool) : P2 K E (fun x y H Q => (∃ (c : Nat) (z : Str), x = .str ⟨#[c]⟩ ∧ y = .str z ∧ Q (.bl (if neg then !decide (c ∈ z.cps.toList) else decide (c ∈ z.cps.toList))) H) ∨ rIn K neg x y H Q) (inD neg) := by
  intro ι H ms a b x y Q R ra rb o
  by_cases hb : ∃ z, b = .str z
  · obtain ⟨z, rfl⟩ := hb
    cases a with
    | str w =>
      have o' : Out K E (Rp K) ι H (if w.cps.size = 1 then .ok (.bl (if neg then !decide (w.cps.getD 0 0 ∈ z.cps.toList) else decide (w.cps.getD 0 0 ∈ z.cps.toList))) ms else .bad) Q := o
      by_cases h : w.cps.size = 1
      · rw [if_pos h] at o'
        exact .inl ⟨w.cps.getD 0 0, z, by rw [← one_sign h]; exact ra, rb, o' _ ι H R .refl rfl⟩
      · rw [if_neg h] at o'; exact o'.elim
    | _ => exact o.elim
  · have o' : Out K E (Rp K) ι H (match seqOf ms b with | some ds => if (flatD a && ds.all flatD) = true then .ok (.bl (if neg then !hasD a ds else hasD a ds)) ms else .bad | none => .bad) Q := by
      cases b with
      | str z => exact (hb ⟨z, rfl⟩).elim
      | _ => exact o
    cases e : seqOf ms b with
    | none => rw [e] at o'; exact o'.elim
    | some ds =>
      simp only [e] at o'
      split at o'
      · rename_i hf
        rw [Bool.and_eq_true] at hf
        obtain ⟨p, xs, rfl, r, hq⟩ := R.seq e rb
        obtain ⟨e1, e2⟩ := flV_of hf.1 ra
        obtain ⟨e3, e4⟩ := flVs_of hf.2 r
        refine .inr ⟨p, xs, rfl, hq, e2, e4, ?_⟩
        rw [e1, e3, hasD_eq]
        exact o' _ ι H R .refl rfl
      · exact o'.elim
variable {X : Cx} {a b : Expr} {f g : Env → MS → Res D} {pos : Pos}
theorem op_inD : OpR X (compareOp .In) (fun x y H Q => (∃ (c : Nat) (z : Str), x = .str ⟨#[c]⟩ ∧ y = .str z ∧ Q (.bl (if false then !decide (c ∈ z.cps.toList) else decide (c ∈ z.cps.toList))) H) ∨ rIn X.K false x y H Q) := op_in_sign.or op_in_seq
theorem op_ninD : OpR X (compareOp .NotIn) (fun x y H Q => (∃ (c : Nat) (z : Str), x = .str ⟨#[c]⟩ ∧ y = .str z ∧ Q (.bl (if true then !decide (c ∈ z.cps.toList) else decide (c ∈ z.cps.toList))) H) ∨ rIn X.K true x y H Q) := op_notIn_sign.or op_notIn_seq
end

/-! ### items and slices -/
@[simp] def optR (o : Option D) (ms : MS) : Res D := match o with
  | some d => .ok d ms
  | none => .bad
@[simp] def idxD (a b : D) (ms : MS) : Res D := match b with
  | .int i => match a with
    | .str z => if z.length ≤ LIM then match atI z.cps.toList i with
      | some c => .ok (.str ⟨#[c]⟩) ms
      | none => .bad else .bad
    | a => optR ((seqOf ms a).bind fun ds => atI ds i) ms
  | _ => .bad
def cutD (ds : List D) (lo hi : Option Int) : List D := (ds.drop (HT.sIx ds.length 0 lo)).take (HT.sIx ds.length ds.length hi - HT.sIx ds.length 0 lo)
@[simp] def slD (mk : List D → MS → Res D) (a : D) (lo hi : Option Int) (ms : MS) : Res D := match a with
  | .str z => if z.length ≤ LIM then .ok (.str (cutS z lo hi)) ms else .bad
  | .tup ds => if HT.sIx ds.length 0 lo = 0 ∧ HT.sIx ds.length ds.length hi = ds.length then .ok (.tup ds) ms else .ok (.tup (cutD ds lo hi)) ms
  | a => match rlOf ms a with
    | some ds => mk (cutD ds lo hi) ms
    | none => .bad
@[simp] def nonO (_ : Env) (ms : MS) : Res (Option Int) := .ok none ms
@[simp] def someO (f : Env → MS → Res D) (env : Env) (ms : MS) : Res (Option Int) := (f env ms).bind fun d ms1 => match d with
  | .int i => .ok (some i) ms1
  | _ => .bad
@[simp] def sliceE (mk : List D → MS → Res D) (f : Env → MS → Res D) (lo hi : Env → MS → Res (Option Int)) (env : Env) (ms : MS) : Res D := (f env ms).bind fun a ms1 => (lo env ms1).bind fun l ms2 => (hi env ms2).bind fun h ms3 => slD mk a l h ms3
section
variable {K : PySem.W.Frag} {ι : Ct} {H : Hp} {ms : MS} {E : EW}
theorem atI_rel {ds : List D} {xs : List V} {i : Int} {d : D} (r : Rps K ι H ds xs) (e : atI ds i = some d) : ∃ v, atI xs i = some v ∧ Rp K ι H d v := by
  unfold atI at e ⊢
  rw [r.length]
  cases q : ixN ds.length i with
  | none => rw [q] at e; cases e
  | some j =>
    rw [q] at e
    obtain ⟨v, e1, e2⟩ := r.get e
    exact ⟨v, e1, e2⟩
theorem q_idx : P2 K E (rIx K) idxD := by
  intro ι H ms a b x y Q R ra rb o
  cases b with
  | int i =>
    obtain rfl : y = .int i := rb
    by_cases ha : ∃ z, a = .str z
    · obtain ⟨z, rfl⟩ := ha
      have o' : Out K E (Rp K) ι H (if z.length ≤ LIM then match atI z.cps.toList i with | some c => .ok (.str ⟨#[c]⟩) ms | none => .bad else .bad) Q := o
      by_cases h : z.length ≤ LIM
      · rw [if_pos h] at o'
        cases e : atI z.cps.toList i with
        | none => rw [e] at o'; exact o'.elim
        | some c =>
          rw [e] at o'
          exact .inr (.inr ⟨z, i, c, ra, rfl, by rw [← lim_eq]; exact h, e, o' _ ι H R .refl rfl⟩)
      · rw [if_neg h] at o'; exact o'.elim
    · have o' : Out K E (Rp K) ι H (optR ((seqOf ms a).bind fun ds => atI ds i) ms) Q := by
        cases a with
        | str z => exact (ha ⟨z, rfl⟩).elim
        | _ => exact o
      cases e : seqOf ms a with
      | none => rw [e] at o'; exact o'.elim
      | some ds =>
        have o2 : Out K E (Rp K) ι H (optR (atI ds i) ms) Q := by rw [e] at o'; exact o'
        cases e2 : atI ds i with
        | none => rw [e2] at o2; exact o2.elim
        | some d =>
          rw [e2] at o2
          obtain ⟨p, xs, rfl, r, hq⟩ := R.seq e ra
          obtain ⟨v, e3, e4⟩ := atI_rel r e2
          rcases hq with hq | hq
          · exact .inl ⟨p, xs, i, v, rfl, rfl, hq, e3, o2 _ ι H R .refl e4⟩
          · exact .inr (.inl ⟨p, xs, i, v, rfl, rfl, hq, e3, o2 _ ι H R .refl e4⟩)
  | _ => exact o.elim
variable {X : Cx} {a b : Expr} {f g : Env → MS → Res D} {pos : Pos}
theorem d_idx (ha : DE X E a f) (hb : DE X E b g) (hs : PlainIx b := by exact fun _ _ => rfl) : DE X E (.Subscript a b pos) (binE f g idxD) :=
  PE.conv (pe_ix ix_seq ha hb hs) fun _ _ _ h => two q_idx h
abbrev DO (X : Cx) (E : EW) (e : Option Expr) (f : Env → MS → Res (Option Int)) : Prop := PO X e (tOI X.K E f)
theorem PO.conv {e : Option Expr} {t t' : TO} (h : PO X e t) (c : ∀ σ H Q, t' σ H Q → t σ H Q) : PO X e t' := ⟨fun pins s σ H Q I q => h.run pins s σ H Q I (c σ H Q q)⟩
theorem o_none : DO X E none nonO := PO.conv po_none fun σ H Q ⟨ι, env, ms, r, ev, o⟩ => o none ι H r .refl rfl
theorem o_some (h : DE X E a f) : DO X E (some a) (someO f) := PO.conv (po_some h) fun σ H Q ⟨ι, env, ms, r0, ev, o⟩ => tR_seq r0 ev o fun ι1 H1 ms1 d x B1 o1 => by
  cases d with
  | int i => exact ⟨i, B1.r, o1 _ ι1 H1 B1.rel .refl rfl⟩
  | _ => exact o1.elim
theorem cut_rel {ds : List D} {xs : List V} (lo hi : Option Int) (r : Rps K ι H ds xs) : Rps K ι H (cutD ds lo hi) (cutV xs lo hi) := by
  unfold cutD cutV
  rw [r.length]
  exact (r.drop _).take _
theorem whole_cut {ds : List D} {lo hi : Option Int} (h : HT.sIx ds.length 0 lo = 0 ∧ HT.sIx ds.length ds.length hi = ds.length) : cutD ds lo hi = ds := by
  unfold cutD
  rw [h.1, h.2, List.drop_zero, Nat.sub_zero, List.take_length]
/-- a slice: mk makes the new list -/
theorem p_sl {mk : List D → MS → Res D} (hmk : ∀ (ι : Ct) (H : Hp) (ms : MS) (ds : List D) (xs : List V) (Q : VK), Rel K ι H ms → Rps K ι H ds xs → Out K E (Rp K) ι H (mk ds ms) Q → xs.length ≤ sizeLine ∧ ∀ p, H p = none → Q (.ref p) (upd H p (.lst xs)))
    {ι : Ct} {H : Hp} {ms : MS} {d : D} {x : V} {lo hi : Option Int} {Q : VK} (R : Rel K ι H ms) (r : Rp K ι H d x) (o : Out K E (Rp K) ι H (slD mk d lo hi ms) Q) :
    rSlL K x lo hi H Q ∨ (∃ a xs, x = .ref a ∧ SqT K H a xs ∧ (HT.sIx xs.length 0 lo = 0 ∧ HT.sIx xs.length xs.length hi = xs.length) ∧ Q (.ref a) H) ∨ rSlT K x lo hi H Q ∨ rSlS x lo hi H Q := by
  by_cases hs : ∃ z, d = .str z
  · obtain ⟨z, rfl⟩ := hs
    have o' : Out K E (Rp K) ι H (if z.length ≤ LIM then .ok (.str (cutS z lo hi)) ms else .bad) Q := o
    by_cases h : z.length ≤ LIM
    · rw [if_pos h] at o'
      exact .inr (.inr (.inr ⟨z, r, by rw [← lim_eq]; exact h, o' _ ι H R .refl rfl⟩))
    · rw [if_neg h] at o'; exact o'.elim
  by_cases ht : ∃ ds, d = .tup ds
  · obtain ⟨ds, rfl⟩ := ht
    obtain ⟨p, xs, rfl, hq, rs⟩ := r
    have o' : Out K E (Rp K) ι H (if HT.sIx ds.length 0 lo = 0 ∧ HT.sIx ds.length ds.length hi = ds.length then .ok (.tup ds) ms else .ok (.tup (cutD ds lo hi)) ms) Q := o
    by_cases h : HT.sIx ds.length 0 lo = 0 ∧ HT.sIx ds.length ds.length hi = ds.length
    · rw [if_pos h] at o'
      exact .inr (.inl ⟨p, xs, rfl, hq, by rw [rs.length]; exact h, o' _ ι H R .refl ⟨p, xs, rfl, hq, rs⟩⟩)
    · rw [if_neg h] at o'
      refine .inr (.inr (.inl ⟨p, xs, rfl, hq, by rw [rs.length]; exact h, fun q hp => ?_⟩))
      exact o' _ ι _ (R.new hp) (Le.new R hp) ⟨q, _, rfl, SqT.of upd_same, Rps.mono (Le.new R hp) _ _ (cut_rel lo hi rs)⟩
  · have o' : Out K E (Rp K) ι H (match rlOf ms d with | some ds => mk (cutD ds lo hi) ms | none => .bad) Q := by
      cases d with
      | str z => exact (hs ⟨z, rfl⟩).elim
      | tup z => exact (ht ⟨z, rfl⟩).elim
      | _ => exact o
    cases e : rlOf ms d with
    | none => rw [e] at o'; exact o'.elim
    | some ds =>
      rw [e] at o'
      obtain ⟨p, xs, rfl, rs, hq⟩ := R.rl e r
      obtain ⟨_, k⟩ := hmk ι H ms _ _ Q R (cut_rel lo hi rs) o'
      exact .inl ⟨p, xs, rfl, hq, k⟩
def rSlW (K : PySem.W.Frag) : V → Option Int → Option Int → Hp → VK → Prop := fun x lo hi H Q => ∃ a xs, x = .ref a ∧ SqT K H a xs ∧ (HT.sIx xs.length 0 lo = 0 ∧ HT.sIx xs.length xs.length hi = xs.length) ∧ Q (.ref a) H
theorem sl_tupW : SlR X (rSlW X.K) := by
  intro pins s σ H x v vl vu lo hi sl Q I rx hs pl pu h
  obtain ⟨a, xs, rfl, ht, hw, q⟩ := h
  cases rx
  obtain ⟨its, r, p, hz⟩ := I.tuple ht
  have hl := r.length
  exact ⟨"tuple", _, slot_tuple_getitem.lookup, p.typeIs, getItem_tuple_whole p hs pl pu (by rw [List.size_toArray, ← hl]; exact hw) ⟨.ref a, H, I, rfl, q⟩⟩
theorem slice_of {mk : List D → MS → Res D} {e : Expr} {lo hi : Option Expr} {fl fh : Env → MS → Res (Option Int)} {p2 : Pos}
    (hmk : ∀ (ι : Ct) (H : Hp) (ms : MS) (ds : List D) (xs : List V) (Q : VK), Rel X.K ι H ms → Rps X.K ι H ds xs → Out X.K E (Rp X.K) ι H (mk ds ms) Q → xs.length ≤ sizeLine ∧ ∀ p, H p = none → Q (.ref p) (upd H p (.lst xs)))
    (he : DE X E e f) (hl : DO X E lo fl) (hh : DO X E hi fh) : DE X E (.Subscript e (.Slice lo hi none p2) pos) (sliceE mk f fl fh) :=
  PE.conv (pe_slice (sl_list.or (sl_tupW.or (sl_tup.or sl_str))) he hl hh) fun σ H Q ⟨ι, env, ms, r0, ev, o⟩ => by
    refine tR_seq r0 ev o fun ι1 H1 ms1 a x B1 o1 => ?_
    refine tR_seq B1.rel B1.env o1 fun ι2 H2 ms2 l l' B2 o2 => ?_
    refine tR_seq B2.rel B2.env o2 fun ι3 H3 ms3 u u' B3 o3 => ?_
    obtain rfl : l' = l := B2.r
    obtain rfl : u' = u := B3.r
    exact p_sl hmk B3.rel (Rp.mono (B2.le.trans B3.le) _ _ B1.r) o3
theorem d_slice {e : Expr} {lo hi : Option Expr} {fl fh : Env → MS → Res (Option Int)} {p2 : Pos} (he : DE X E e f) (hl : DO X E lo fl) (hh : DO X E hi fh) : DE X E (.Subscript e (.Slice lo hi none p2) pos) (sliceE mkLst f fl fh) :=
  slice_of (fun _ _ _ _ _ _ R r o => mkLst_ok R r o) he hl hh
theorem d_sliceM {e : Expr} {lo hi : Option Expr} {fl fh : Env → MS → Res (Option Int)} {p2 : Pos} (he : DE X E e f) (hl : DO X E lo fl) (hh : DO X E hi fh) : DE X E (.Subscript e (.Slice lo hi none p2) pos) (sliceE mkMut f fl fh) :=
  slice_of (fun _ _ _ _ _ _ R r o => mkMut_ok R r o) he hl hh
end
end DL

set_option maxHeartbeats 1000000
namespace DL
open PySem PySem.Spec L2
open PyProof.Rows hiding St

/-! ### statements -/
inductive Fl where
  | nx | brk | cont | ret (d : D)
abbrev SR := Fl × Env
abbrev SF := Env → MS → Res SR
def OutS (K : PySem.W.Frag) (E : EW) (ι : Ct) (H : Hp) (r : Res SR) (D : Ends) : Prop := match r with
  | .bad => False
  | .exc x ms' => ∀ ι' H', Rel K ι' H' ms' → Le ι H ι' H' → E x ι' H'
  | .ok (.nx, env') ms' => ∀ σ' ι' H', Rel K ι' H' ms' → Le ι H ι' H' → EnvOk K ι' H' env' σ' → D.nx σ' H'
  | .ok (.brk, env') ms' => ∀ σ' ι' H', Rel K ι' H' ms' → Le ι H ι' H' → EnvOk K ι' H' env' σ' → D.bk σ' H'
  | .ok (.cont, env') ms' => ∀ σ' ι' H', Rel K ι' H' ms' → Le ι H ι' H' → EnvOk K ι' H' env' σ' → D.ct σ' H'
  | .ok (.ret d, _) ms' => ∀ v ι' H', Rel K ι' H' ms' → Le ι H ι' H' → Rp K ι' H' d v → D.rt v H'
section
variable {K : PySem.W.Frag} {E : EW} {ι ι' : Ct} {H H' : Hp}
theorem OutS.from {r : Res SR} {D : Ends} (l : Le ι H ι' H') (o : OutS K E ι H r D) : OutS K E ι' H' r D := by
  cases r with
  | bad => exact o
  | exc x ms => exact fun ι2 H2 r2 l2 => o ι2 H2 r2 (l.trans l2)
  | ok a ms =>
    obtain ⟨fl, env'⟩ := a
    cases fl with
    | nx => exact fun σ ι2 H2 r2 l2 e => o σ ι2 H2 r2 (l.trans l2) e
    | brk => exact fun σ ι2 H2 r2 l2 e => o σ ι2 H2 r2 (l.trans l2) e
    | cont => exact fun σ ι2 H2 r2 l2 e => o σ ι2 H2 r2 (l.trans l2) e
    | ret d => exact fun v ι2 H2 r2 l2 e => o v ι2 H2 r2 (l.trans l2) e
end
def tS (K : PySem.W.Frag) (E : EW) (F : SF) : TS := fun D σ H => ∃ ι env ms, Rel K ι H ms ∧ EnvOk K ι H env σ ∧ OutS K E ι H (F env ms) D
abbrev DS (X : Cx) (E : EW) (st : Stmt) (F : SF) : Prop := PS X st (tS X.K E F)
abbrev DSs (X : Cx) (E : EW) (st : List Stmt) (F : SF) : Prop := PSs X st (tS X.K E F)
/-- an expression, then what follows -/
theorem tR_seqS {α β : Type} {K : PySem.W.Frag} {E : EW} {R : Ct → Hp → α → β → Prop} {f : Env → MS → Res α} {k : α → MS → Res SR} {σ : St} {ι : Ct} {H : Hp} {env : Env} {ms : MS} {D : Ends} {Q' : β → Hp → Prop}
    (r : Rel K ι H ms) (ev : EnvOk K ι H env σ) (o : OutS K E ι H ((f env ms).bind k) D)
    (h : ∀ ι1 H1 ms1 a b, Bh K R ι H env σ ι1 H1 ms1 a b → OutS K E ι1 H1 (k a ms1) D → Q' b H1) : tR K E R f σ H Q' := by
  refine ⟨ι, env, ms, r, ev, ?_⟩
  cases e : f env ms with
  | bad => rw [e] at o; exact o
  | ok a ms1 =>
    rw [e] at o
    exact fun b ι1 H1 r1 l1 q1 => h ι1 H1 ms1 a b ⟨r1, ev.mono l1, l1, q1⟩ (OutS.from l1 o)
  | exc x ms1 => rw [e] at o; exact o
@[simp] def skipS : SF := fun env ms => .ok (.nx, env) ms
@[simp] def brkS : SF := fun env ms => .ok (.brk, env) ms
@[simp] def contS : SF := fun env ms => .ok (.cont, env) ms
@[simp] def seqS (F G : SF) : SF := fun env ms => (F env ms).bind fun a ms1 => match a with
  | (.nx, env1) => G env1 ms1
  | a => .ok a ms1
@[simp] def dropS (f : Env → MS → Res D) : SF := fun env ms => (f env ms).bind fun _ ms1 => .ok (.nx, env) ms1
@[simp] def retS (f : Env → MS → Res D) : SF := fun env ms => (f env ms).bind fun d ms1 => .ok (.ret d, env) ms1
@[simp] def retN : SF := fun env ms => .ok (.ret .non, env) ms
@[simp] def ifS (t : Env → MS → Res Bool) (F G : SF) : SF := fun env ms => (t env ms).bind fun b ms1 => if b = true then F env ms1 else G env ms1
@[simp] def setS (i : Nat) (f : Env → MS → Res D) : SF := fun env ms => (f env ms).bind fun d ms1 => .ok (.nx, env.set i (some d)) ms1
section
variable {X : Cx} {E : EW} {st : Stmt} {rest : List Stmt} {F G : SF} {e : Expr} {f : Env → MS → Res D} {t : Env → MS → Res Bool} {pos : Pos}
theorem s_nil : DSs X E [] skipS := PSs.conv pss_nil fun σ H D ⟨ι, env, ms, r, ev, o⟩ => o σ ι H r .refl ev
theorem s_one (h : DS X E st F) : DSs X E [st] F := pss_one h
theorem s_cons (h1 : DS X E st F) (h2 : DSs X E rest G) : DSs X E (st :: rest) (seqS F G) := PSs.conv (pss_cons h1 h2) fun σ H D ⟨ι, env, ms, r, ev, o⟩ => by
  refine ⟨ι, env, ms, r, ev, ?_⟩
  unfold seqS at o
  cases q : F env ms with
  | bad => rw [q] at o; exact o
  | exc x ms1 => rw [q] at o; exact o
  | ok a ms1 =>
    rw [q] at o
    obtain ⟨fl, env1⟩ := a
    cases fl with
    | nx => exact fun σ' ι' H' r' l' e' => ⟨ι', env1, ms1, r', e', OutS.from l' o⟩
    | brk => exact o
    | cont => exact o
    | ret d => exact o
theorem s_pass : DS X E (.Pass pos) skipS := PS.conv ps_pass fun σ H D ⟨ι, env, ms, r, ev, o⟩ => o σ ι H r .refl ev
theorem s_brk : DS X E (.Break pos) brkS := PS.conv ps_break fun σ H D ⟨ι, env, ms, r, ev, o⟩ => o σ ι H r .refl ev
theorem s_cont : DS X E (.Continue pos) contS := PS.conv ps_continue fun σ H D ⟨ι, env, ms, r, ev, o⟩ => o σ ι H r .refl ev
theorem s_drop (h : DE X E e f) (hs : swapsWith e none pos.line X.env = pure false := by rfl) : DS X E (.Expr e pos) (dropS f) :=
  PS.conv (ps_expr h hs) fun σ H D ⟨ι, env, ms, r, ev, o⟩ => tR_seqS r ev o fun ι1 H1 ms1 a b B o1 => o1 σ ι1 H1 B.rel .refl B.env
theorem s_ret (h : DE X E e f) : DS X E (.Return (some e) pos) (retS f) :=
  PS.conv (ps_ret h) fun σ H D ⟨ι, env, ms, r, ev, o⟩ => tR_seqS r ev o fun ι1 H1 ms1 a b B o1 => o1 b ι1 H1 B.rel .refl B.r
theorem s_retN : DS X E (.Return none pos) retN := PS.conv ps_retN fun σ H D ⟨ι, env, ms, r, ev, o⟩ => o .non ι H r .refl rfl
theorem s_if {c : Expr} {a b : List Stmt} (hc : DT X E c t) (ha : DSs X E a F) (hb : DSs X E b G) : DS X E (.If c a b pos) (ifS t F G) :=
  PS.conv (ps_if hc ha hb) fun σ H D ⟨ι, env, ms, r, ev, o⟩ => tR_seqS r ev o fun ι1 H1 ms1 a b B o1 => by
    obtain rfl : b = a := B.r
    cases b with
    | true => exact ⟨ι1, env, ms1, B.rel, B.env, o1⟩
    | false => exact ⟨ι1, env, ms1, B.rel, B.env, o1⟩
theorem s_set {i : Nat} {x : Str} {pos' : Pos} (hN : X.N.Nodup) (hi : X.N[i]? = some x) (hx : Loc X.env.scope x) (he : DE X E e f) (hs : swapsWith e (some (.Name x pos')) pos.line X.env = pure false := by rfl)
    (hf : X.fn x = true ∨ X.env.scope.names.lookup x = some .local := by first | exact .inl rfl | exact .inr rfl | assumption) : DS X E (.Assign [.Name x pos'] e pos) (setS i f) :=
  PS.conv (ps_set hN hi hx he hs hf) fun σ H D ⟨ι, env, ms, r, ev, o⟩ => tR_seqS r ev o fun ι1 H1 ms1 a b B o1 => o1 _ ι1 H1 B.rel .refl (B.env.set B.r i)
end

/-! ### targets -/
abbrev TF := D → Env → MS → Res Env
def OutT (K : PySem.W.Frag) (E : EW) (ι : Ct) (H : Hp) (r : Res Env) (Q : St → Hp → Prop) : Prop := match r with
  | .bad => False
  | .exc x ms' => ∀ ι' H', Rel K ι' H' ms' → Le ι H ι' H' → E x ι' H'
  | .ok env' ms' => ∀ σ' ι' H', Rel K ι' H' ms' → Le ι H ι' H' → EnvOk K ι' H' env' σ' → Q σ' H'
theorem OutT.from {K : PySem.W.Frag} {E : EW} {ι ι' : Ct} {H H' : Hp} {r : Res Env} {Q : St → Hp → Prop} (l : Le ι H ι' H') (o : OutT K E ι H r Q) : OutT K E ι' H' r Q := by
  cases r with
  | bad => exact o
  | exc x ms => exact fun ι2 H2 r2 l2 => o ι2 H2 r2 (l.trans l2)
  | ok a ms => exact fun σ ι2 H2 r2 l2 e => o σ ι2 H2 r2 (l.trans l2) e
def tG (K : PySem.W.Frag) (E : EW) (T : TF) : TG := fun v σ H Q => ∃ ι env ms d, Rel K ι H ms ∧ EnvOk K ι H env σ ∧ Rp K ι H d v ∧ OutT K E ι H (T d env ms) Q
abbrev DG (X : Cx) (E : EW) (tg : Expr) (T : TF) : Prop := PG X tg (tG X.K E T)
theorem PG.conv {X : Cx} {e : Expr} {t t' : TG} (h : PG X e t) (c : ∀ v σ H Q, t' v σ H Q → t v σ H Q) : PG X e t' := ⟨fun pins s σ H v u Q I r q => h.run pins s σ H v u Q I r (c v σ H Q q)⟩
def tGs (K : PySem.W.Frag) (E : EW) (T : List D → Env → MS → Res Env) : TGs := fun vs σ H Q => ∃ ι env ms ds, Rel K ι H ms ∧ EnvOk K ι H env σ ∧ Rps K ι H ds vs ∧ OutT K E ι H (T ds env ms) Q
abbrev DGs (X : Cx) (E : EW) (tg : List Expr) (T : List D → Env → MS → Res Env) : Prop := PGs X tg (tGs X.K E T)
theorem PGs.conv {X : Cx} {e : List Expr} {t t' : TGs} (h : PGs X e t) (c : ∀ v σ H Q, t' v σ H Q → t v σ H Q) : PGs X e t' := ⟨fun pins s σ H v u Q I r q => h.run pins s σ H v u Q I r (c v σ H Q q)⟩
@[simp] def nameT (i : Nat) : TF := fun d env ms => .ok (env.set i (some d)) ms
@[simp] def nilT (ds : List D) (env : Env) (ms : MS) : Res Env := match ds with
  | [] => .ok env ms
  | _ => .bad
@[simp] def consT (T : TF) (Ts : List D → Env → MS → Res Env) (ds : List D) (env : Env) (ms : MS) : Res Env := match ds with
  | [] => .bad
  | d :: r => (T d env ms).bind fun env1 ms1 => Ts r env1 ms1
@[simp] def tupT (n : Nat) (Ts : List D → Env → MS → Res Env) : TF := fun d env ms => match d with
  | .tup ds => if ds.length = n then Ts ds env ms else .bad
  | _ => .bad
section
variable {X : Cx} {E : EW} {e : Expr} {es : List Expr} {T : TF} {Ts : List D → Env → MS → Res Env} {pos : Pos}
theorem g_name {i : Nat} {x : Str} (hN : X.N.Nodup) (hi : X.N[i]? = some x) (hx : Loc X.env.scope x) (hf : X.fn x = true ∨ X.env.scope.names.lookup x = some .local := by first | exact .inl rfl | exact .inr rfl | assumption) : DG X E (.Name x pos) (nameT i) :=
  PG.conv (pg_name hN hi hx hf) fun v σ H Q ⟨ι, env, ms, d, r, ev, rd, o⟩ => o _ ι H r .refl (ev.set rd i)
theorem g_nil : DGs X E [] nilT := PGs.conv pgs_nil fun vs σ H Q ⟨ι, env, ms, ds, r, ev, rd, o⟩ => by
  cases ds with
  | nil => cases rd; exact ⟨rfl, o σ ι H r .refl ev⟩
  | cons d ds => exact o.elim
theorem g_cons (h1 : DG X E e T) (h2 : DGs X E es Ts) (hs : (assignEach (e :: es) X.env).map (·.2) = assign e X.env :: (assignEach es X.env).map (·.2) := by rfl) : DGs X E (e :: es) (consT T Ts) :=
  PGs.conv (pgs_cons h1 h2 hs) fun vs σ H Q ⟨ι, env, ms, ds, r, ev, rd, o⟩ => by
    cases ds with
    | nil => exact o.elim
    | cons d ds =>
      obtain ⟨v, vr, rfl, h1, h2⟩ := rd
      refine ⟨v, vr, rfl, ι, env, ms, d, r, ev, h1, ?_⟩
      unfold consT at o
      cases q : T d env ms with
      | bad => simp only [q] at o; exact o
      | exc x ms1 => simp only [q] at o; exact o
      | ok env1 ms1 =>
        simp only [q] at o
        exact fun σ' ι' H' r' l' e' => ⟨ι', env1, ms1, ds, r', e', Rps.mono l' _ _ h2, OutT.from l' o⟩
theorem g_tup {k n : Nat} (hc : X.calm = true) (h : DGs X E es Ts) (hn : (assignEach es X.env).length = n := by rfl) (hst : (assignEach es X.env).findIdx? (·.1) = none := by rfl) : DG X E (.Tuple es k pos) (tupT n Ts) :=
  PG.conv (pg_tup hc h hn hst) fun v σ H Q ⟨ι, env, ms, d, r, ev, rd, o⟩ => by
    cases d with
    | tup ds =>
      obtain ⟨p, xs, rfl, hq, rs⟩ := rd
      have o' : OutT X.K E ι H (if ds.length = n then Ts ds env ms else .bad) Q := o
      by_cases h : ds.length = n
      · rw [if_pos h] at o'
        exact ⟨p, xs, rfl, hq, by rw [rs.length]; exact h, ι, env, ms, ds, r, ev, rs, o'⟩
      · rw [if_neg h] at o'; exact o'.elim
    | _ => exact o.elim
@[simp] def asgS (f : Env → MS → Res D) (T : TF) : SF := fun env ms => (f env ms).bind fun d ms1 => (T d env ms1).bind fun env1 ms2 => .ok (.nx, env1) ms2
variable {tg : Expr} {f : Env → MS → Res D}
theorem s_asg (he : DE X E e f) (hg : DG X E tg T) (hs : swapsWithSole [tg] e pos.line X.env = pure false := by rfl) (hw : swappedStores [tg] e X.env = pure none := by rfl)
    (h1 : (assignEach [tg] X.env).map (·.2) = [assign tg X.env] := by rfl) : DS X E (.Assign [tg] e pos) (asgS f T) :=
  PS.conv (ps_asg he hg hs hw h1) fun σ H D ⟨ι, env, ms, r, ev, o⟩ => tR_seqS r ev o fun ι1 H1 ms1 a b B o1 => by
    refine ⟨ι1, env, ms1, a, B.rel, B.env, B.r, ?_⟩
    cases q : T a env ms1 with
    | bad => rw [q] at o1; exact o1
    | exc x ms2 => rw [q] at o1; exact o1
    | ok env2 ms2 => rw [q] at o1; exact o1
/-- o[i] = v of a list that may change -/
@[simp] def subT (fo fi : Env → MS → Res D) : TF := fun d env ms => (fo env ms).bind fun o ms1 => (fi env ms1).bind fun i ms2 => match o with
  | .ptr n => match i with
    | .int k => match ms2[n]? with
      | some (.lst ds) => match ixN ds.length k with
        | some j => .ok env (ms2.set n (.lst (ds.set j d)))
        | none => .bad
      | _ => .bad
    | _ => .bad
  | _ => .bad
theorem g_sub {o i : Expr} {fo fi : Env → MS → Res D} (ho : DE X E o fo) (hi : DE X E i fi)
    (ha : ∀ v, assign (.Subscript o i pos) X.env v = (do
      let ov ← holding [v] (eval o X.env)
      let iv ← holding [v, ov] (eval i X.env)
      standAt pos
      holding [v, ov, iv] (setItem ov iv v)
      release [v, ov, iv] []) := by intro _; rfl) : DG X E (.Subscript o i pos) (subT fo fi) :=
  PG.conv (pg_sub ho hi set_list ha) fun v σ H Q ⟨ι, env, ms, d, r, ev, rd, o⟩ => by
    unfold subT at o
    refine ⟨ι, env, ms, r, ev, ?_⟩
    cases q : fo env ms with
    | bad => simp only [q] at o; exact o
    | exc x ms1 => simp only [q] at o; exact o
    | ok a ms1 =>
      simp only [q, bind_ok] at o
      intro x ι1 H1 r1 l1 ra
      refine ⟨ι1, env, ms1, r1, ev.mono l1, ?_⟩
      cases q2 : fi env ms1 with
      | bad => simp only [q2] at o; exact o
      | exc x ms2 => simp only [q2] at o; exact fun ι2 H2 r2 l2 => o ι2 H2 r2 (l1.trans l2)
      | ok b ms2 =>
        simp only [q2, bind_ok] at o
        intro y ι2 H2 r2 l2 rb
        cases a with
        | ptr n =>
          cases b with
          | int k =>
            cases hb : ms2[n]? with
            | none => simp only [hb] at o; exact o.elim
            | some c =>
              cases c with
              | lst ds =>
                simp only [hb] at o
                cases hj : ixN ds.length k with
                | none => simp only [hj] at o; exact o.elim
                | some j =>
                  simp only [hj] at o
                  obtain ⟨p, rfl, hn⟩ := Rp.mono l2 _ _ ra
                  obtain ⟨xs, h1, h2⟩ := r2.ok n p _ hn hb
                  refine ⟨p, xs, k, j, rfl, rb, h1, by rw [h2.length]; exact hj, ?_⟩
                  have w := Le.write (o := .lst (xs.set j v)) r2 hn
                  refine o σ ι2 _ (r2.write hn ⟨_, upd_same, Rps.mono w _ _ (h2.set j (Rp.mono (l1.trans l2) _ _ rd))⟩) ((l1.trans l2).trans w) ((ev.mono (l1.trans l2)).mono w)
              | _ => simp only [hb] at o; exact o.elim
          | _ => exact o.elim
        | _ => exact o.elim
end

/-! ### what is walked -/
inductive WOut where
  | stop | item (d : D) | bad
/-- what is walked: the data that it leans on, its i-th turn, a bound of its turns -/
structure Src where
  ds : List D
  nx : Nat → MS → WOut
  n : Nat
def JStep (K : PySem.W.Frag) (ι : Ct) (H : Hp) (ms : MS) (J : It) (i : Nat) (w : WOut) : Prop := match w with
  | .stop => J.stop i H
  | .item d => J.go i H ∧ ∀ x H', J.yld i H x H' → Rel K ι H' ms ∧ Le ι H ι H' ∧ Rp K ι H' d x
  | .bad => True
def JOk (K : PySem.W.Frag) (J : It) (s : Src) (vs : List V) : Prop := ∀ (ι : Ct) (H : Hp) (ms : MS) (i : Nat), Rel K ι H ms → Rps K ι H s.ds vs → JStep K ι H ms J i (s.nx i ms)
def OutI (K : PySem.W.Frag) (E : EW) (ι : Ct) (H : Hp) (r : Res Src) (R : It → Hp → Prop) : Prop := match r with
  | .bad => False
  | .exc x ms' => ∀ ι' H', Rel K ι' H' ms' → Le ι H ι' H' → E x ι' H'
  | .ok s ms' => ∀ J ι' H' vs, Rel K ι' H' ms' → Le ι H ι' H' → Rps K ι' H' s.ds vs → JOk K J s vs → R J H'
def tI (K : PySem.W.Frag) (E : EW) (g : Env → MS → Res Src) : TI := fun σ H R => ∃ ι env ms, Rel K ι H ms ∧ EnvOk K ι H env σ ∧ OutI K E ι H (g env ms) R
abbrev DI (X : Cx) (E : EW) (tg iter : Expr) (g : Env → MS → Res Src) : Prop := PI X tg iter (tI X.K E g)
theorem PI.conv {X : Cx} {tg e : Expr} {t t' : TI} (h : PI X tg e t) (c : ∀ σ H R, t' σ H R → t σ H R) : PI X tg e t' := ⟨fun pins s σ H R I q => h.run pins s σ H R I (c σ H R q)⟩
theorem OutI.from {K : PySem.W.Frag} {E : EW} {ι ι' : Ct} {H H' : Hp} {r : Res Src} {Q : It → Hp → Prop} (l : Le ι H ι' H') (o : OutI K E ι H r Q) : OutI K E ι' H' r Q := by
  cases r with
  | bad => exact o
  | exc x ms => exact fun ι2 H2 r2 l2 => o ι2 H2 r2 (l.trans l2)
  | ok a ms => exact fun J ι2 H2 vs r2 l2 e => o J ι2 H2 vs r2 (l.trans l2) e
theorem tR_seqI {α β : Type} {K : PySem.W.Frag} {E : EW} {R : Ct → Hp → α → β → Prop} {f : Env → MS → Res α} {k : α → MS → Res Src} {σ : St} {ι : Ct} {H : Hp} {env : Env} {ms : MS} {Q : It → Hp → Prop} {Q' : β → Hp → Prop}
    (r : Rel K ι H ms) (ev : EnvOk K ι H env σ) (o : OutI K E ι H ((f env ms).bind k) Q)
    (h : ∀ ι1 H1 ms1 a b, Bh K R ι H env σ ι1 H1 ms1 a b → OutI K E ι1 H1 (k a ms1) Q → Q' b H1) : tR K E R f σ H Q' := by
  refine ⟨ι, env, ms, r, ev, ?_⟩
  cases e : f env ms with
  | bad => rw [e] at o; exact o
  | ok a ms1 =>
    rw [e] at o
    exact fun b ι1 H1 r1 l1 q1 => h ι1 H1 ms1 a b ⟨r1, ev.mono l1, l1, q1⟩ (OutI.from l1 o)
  | exc x ms1 => rw [e] at o; exact o
def nxOf (o : Option (List D)) (i : Nat) : WOut := match o with
  | none => .bad
  | some ds => match ds[i]? with
    | none => .stop
    | some d => .item d
@[simp] def lstSrc (f : Env → MS → Res D) (env : Env) (ms : MS) : Res Src := (f env ms).bind fun d ms1 => match rlOf ms1 d with
  | some ds => .ok ⟨[d], fun i m => nxOf (rlOf m d) i, ds.length + 1⟩ ms1
  | none => .bad
@[simp] def tupSrc (f : Env → MS → Res D) (env : Env) (ms : MS) : Res Src := (f env ms).bind fun d ms1 => match d with
  | .tup ds => .ok ⟨[.tup ds], fun i _ => nxOf (some ds) i, ds.length + 1⟩ ms1
  | _ => .bad
@[simp] def strSrc (f : Env → MS → Res D) (env : Env) (ms : MS) : Res Src := (f env ms).bind fun d ms1 => match d with
  | .str x => .ok ⟨[], fun i _ => nxOf (some (x.cps.toList.map fun c => .str ⟨#[c]⟩)) i, x.cps.size + 1⟩ ms1
  | _ => .bad
def rngNx (lo : Int) (n : Nat) (i : Nat) : WOut := if i < n then .item (.int (lo + i)) else .stop
@[simp] def rngSrc1 (f : Env → MS → Res D) (env : Env) (ms : MS) : Res Src := (f env ms).bind fun d ms1 => match d with
  | .int j => if -(2 ^ 62) ≤ j ∧ j < 2 ^ 62 then .ok ⟨[], fun i _ => rngNx 0 j.toNat i, j.toNat + 1⟩ ms1 else .bad
  | _ => .bad
@[simp] def rngSrc2 (f g : Env → MS → Res D) (env : Env) (ms : MS) : Res Src := (f env ms).bind fun d ms1 => (g env ms1).bind fun e ms2 => match d with
  | .int i => match e with
    | .int j => if -(2 ^ 62) ≤ i ∧ i < 2 ^ 62 ∧ -(2 ^ 62) ≤ j ∧ j < 2 ^ 62 then .ok ⟨[], fun k _ => rngNx i (j - i).toNat k, (j - i).toNat + 1⟩ ms2 else .bad
    | _ => .bad
  | _ => .bad
section
variable {X : Cx} {E : EW} {tg l : Expr} {f : Env → MS → Res D} {fs : Env → MS → Res (List D)}
theorem i_lst (h : DE X E l f) : DI X E tg l (lstSrc f) := PI.conv (pi_list h) fun σ H R ⟨ι, env, ms, r, ev, o⟩ => tR_seqI r ev o fun ι1 H1 ms1 d x B o1 => by
  cases e : rlOf ms1 d with
  | none => simp only [e] at o1; exact o1.elim
  | some ds =>
    simp only [e] at o1
    obtain ⟨p, xs, rfl, rs, hq⟩ := B.rel.rl e B.r
    refine ⟨p, rfl, ⟨xs, hq⟩, o1 _ ι1 H1 [.ref p] B.rel .refl (Rps.mk1 B.r) fun ι2 H2 ms2 i R2 rd => ?_⟩
    obtain ⟨v, e1, rd⟩ := rd.one
    cases e1
    show JStep X.K ι2 H2 ms2 (Itl X.K p) i (nxOf (rlOf ms2 d) i)
    cases e2 : rlOf ms2 d with
    | none => exact True.intro
    | some es =>
      obtain ⟨p', ys, e3, rs2, hq2⟩ := R2.rl e2 rd
      cases e3
      unfold nxOf
      cases e4 : es[i]? with
      | none =>
        simp only [e4]
        exact ⟨ys, hq2, by rw [rs2.length]; exact List.getElem?_eq_none_iff.mp e4⟩
      | some y =>
        simp only [e4]
        obtain ⟨v, e5, e6⟩ := rs2.get e4
        refine ⟨⟨ys, v, hq2, e5⟩, fun x H' hy => ?_⟩
        obtain ⟨rfl, hy⟩ := hy
        have := hy ys hq2
        rw [e5] at this
        cases this
        exact ⟨R2, .refl, e6⟩
theorem i_tup (h : DE X E l f) : DI X E tg l (tupSrc f) := PI.conv (pi_tup h) fun σ H R ⟨ι, env, ms, r, ev, o⟩ => tR_seqI r ev o fun ι1 H1 ms1 d x B o1 => by
  cases d with
  | tup ds =>
    obtain ⟨p, xs, rfl, hq, rs⟩ := B.r
    refine ⟨p, rfl, ⟨xs, hq⟩, o1 _ ι1 H1 [.ref p] B.rel .refl (Rps.mk1 ⟨p, xs, rfl, hq, rs⟩) fun ι2 H2 ms2 i R2 rd => ?_⟩
    obtain ⟨v, e1, p', ys, e3, hq2, rs2⟩ := rd.one
    cases e1
    cases e3
    show JStep X.K ι2 H2 ms2 (Itt X.K p) i (nxOf (some ds) i)
    unfold nxOf
    cases e4 : ds[i]? with
    | none =>
      simp only [e4]
      exact ⟨ys, hq2, by rw [rs2.length]; exact List.getElem?_eq_none_iff.mp e4⟩
    | some y =>
      simp only [e4]
      obtain ⟨v, e5, e6⟩ := rs2.get e4
      refine ⟨⟨ys, v, hq2, e5⟩, fun x H' hy => ?_⟩
      obtain ⟨rfl, hy⟩ := hy
      have := hy ys hq2
      rw [e5] at this
      cases this
      exact ⟨R2, .refl, e6⟩
  | _ => exact o1.elim
theorem i_str (h : DE X E l f) : DI X E tg l (strSrc f) := PI.conv (pi_str h) fun σ H R ⟨ι, env, ms, r, ev, o⟩ => tR_seqI r ev o fun ι1 H1 ms1 d x B o1 => by
  cases d with
  | str z =>
    refine ⟨z, B.r, o1 _ ι1 H1 [] B.rel .refl rfl fun ι2 H2 ms2 i R2 rd => ?_⟩
    show JStep X.K ι2 H2 ms2 (Its z) i (nxOf (some (z.cps.toList.map fun c => D.str ⟨#[c]⟩)) i)
    unfold nxOf
    by_cases hi : i < z.cps.size
    · have e : (z.cps.toList.map fun c => D.str ⟨#[c]⟩)[i]? = some (D.str ⟨#[z.cps[i]]⟩) := by simp [hi]
      simp only [e]
      refine ⟨hi, fun x H' hy => ?_⟩
      obtain ⟨rfl, c, e2, rfl⟩ := hy
      rw [Array.getElem?_eq_getElem hi] at e2
      cases e2
      exact ⟨R2, .refl, rfl⟩
    · have e : (z.cps.toList.map fun c => D.str ⟨#[c]⟩)[i]? = none := by simp; omega
      simp only [e]
      exact Nat.le_of_not_lt hi
  | _ => exact o1.elim
theorem rng_ok {K : PySem.W.Frag} {lo : Int} {n m : Nat} : JOk K (Itr lo n) ⟨[], fun i _ => rngNx lo n i, m⟩ [] := fun ι2 H2 ms2 i R2 rd => by
  show JStep K ι2 H2 ms2 (Itr lo n) i (rngNx lo n i)
  unfold rngNx
  by_cases h : i < n
  · rw [if_pos h]
    refine ⟨h, fun x H' hy => ?_⟩
    obtain ⟨rfl, rfl⟩ := hy
    exact ⟨R2, .refl, rfl⟩
  · rw [if_neg h]
    exact Nat.le_of_not_lt h
theorem i_rng1 {a : Expr} {p pos : Pos} (hg : Gl X "range") (hm : X.mg "range" = none) (ha : DE X E a f) (hs : starEach [a] X.env = [(false, eval a X.env)] := by rfl) : DI X E tg (.Call (.Name "range" p) [a] [] pos) (rngSrc1 f) :=
  PI.conv (pi_range1 hg hm (a_cons ha a_nil hs) hs) fun σ H R ⟨ι, env, ms, r, ev, o⟩ => by
    refine ⟨ι, env, ms, r, ev, ?_⟩
    unfold rngSrc1 at o
    unfold consA
    cases q : f env ms with
    | bad => rw [q] at o; exact o
    | exc x ms1 => rw [q] at o; exact o
    | ok d ms1 =>
      simp only [q, bind_ok] at o
      simp only [bind_ok, nilA]
      intro vs ι1 H1 R1 l1 rv
      obtain ⟨v, rfl, rd⟩ := rv.one
      cases d with
      | int j =>
        by_cases h : -(2 ^ 62) ≤ j ∧ j < 2 ^ 62
        · simp only [if_pos h] at o
          cases rd
          exact ⟨j, rfl, h.1, h.2, o _ ι1 H1 [] R1 l1 rfl rng_ok⟩
        · simp only [if_neg h] at o; exact o.elim
      | _ => exact o.elim
theorem i_rng2 {a b : Expr} {g : Env → MS → Res D} {p pos : Pos} (hg : Gl X "range") (hm : X.mg "range" = none) (ha : DE X E a f) (hb : DE X E b g) (hs : starEach [a, b] X.env = [(false, eval a X.env), (false, eval b X.env)] := by rfl) (hs2 : starEach [b] X.env = [(false, eval b X.env)] := by rfl)
    (hs3 : starEach [a, b] X.env = (false, eval a X.env) :: starEach [b] X.env := by rfl) : DI X E tg (.Call (.Name "range" p) [a, b] [] pos) (rngSrc2 f g) :=
  PI.conv (pi_range2 hg hm (a_cons ha (a_cons hb a_nil hs2) hs3) hs hs2) fun σ H R ⟨ι, env, ms, r, ev, o⟩ => by
    refine ⟨ι, env, ms, r, ev, ?_⟩
    unfold rngSrc2 at o
    unfold consA
    cases q : f env ms with
    | bad => rw [q] at o; exact o
    | exc x ms1 => rw [q] at o; exact o
    | ok d ms1 =>
      simp only [q, bind_ok] at o
      simp only [bind_ok]
      cases q2 : g env ms1 with
      | bad => rw [q2] at o; exact o
      | exc x ms2 => rw [q2] at o; exact o
      | ok e ms2 =>
        simp only [q2, bind_ok] at o
        simp only [bind_ok, nilA]
        intro vs ι1 H1 R1 l1 rv
        obtain ⟨v, _, rfl, rd, rv⟩ := rv
        obtain ⟨v2, rfl, re⟩ := rv.one
        cases d with
        | int i =>
          cases e with
          | int j =>
            by_cases h : -(2 ^ 62) ≤ i ∧ i < 2 ^ 62 ∧ -(2 ^ 62) ≤ j ∧ j < 2 ^ 62
            · simp only [if_pos h] at o
              cases rd
              cases re
              exact ⟨i, j, rfl, h, o _ ι1 H1 [] R1 l1 rfl rng_ok⟩
            · simp only [if_neg h] at o; exact o.elim
          | _ => exact o.elim
        | _ => exact o.elim
end

/-! ### for, while -/
def forLoop (nx : Nat → MS → WOut) (turn : D → SF) : Nat → Nat → SF
  | 0, _, _, _ => .bad
  | n + 1, i, env, ms => match nx i ms with
    | .bad => .bad
    | .stop => .ok (.nx, env) ms
    | .item d => (turn d env ms).bind fun a ms1 => match a with
      | (.nx, env1) => forLoop nx turn n (i + 1) env1 ms1
      | (.cont, env1) => forLoop nx turn n (i + 1) env1 ms1
      | (.brk, env1) => .ok (.nx, env1) ms1
      | (.ret r, env1) => .ok (.ret r, env1) ms1
@[simp] def turnOf (T : TF) (B : SF) : D → SF := fun d env ms => (T d env ms).bind fun env1 ms1 => B env1 ms1
@[simp] def forS (g : Env → MS → Res Src) (T : TF) (B : SF) : SF := fun env ms => (g env ms).bind fun s ms1 => forLoop s.nx (turnOf T B) s.n 0 env ms1
def whileLoop (t : Env → MS → Res Bool) (B : SF) : Nat → SF
  | 0, _, _ => .bad
  | n + 1, env, ms => (t env ms).bind fun b ms1 => if b = true then (B env ms1).bind fun a ms2 => match a with
      | (.nx, env1) => whileLoop t B n env1 ms2
      | (.cont, env1) => whileLoop t B n env1 ms2
      | (.brk, env1) => .ok (.nx, env1) ms2
      | (.ret r, env1) => .ok (.ret r, env1) ms2
    else .ok (.nx, env) ms1
section
variable {X : Cx} {E : EW} {tg iter : Expr} {body : List Stmt} {g : Env → MS → Res Src} {T : TF} {B : SF} {pos : Pos} {t : Env → MS → Res Bool} {c : Expr}
theorem s_for (hp : PassesOwn (model X.prog X.w) X.A X.env X.xe) (hc : X.calm = true) (hi : DI X E tg iter g) (hg : DG X E tg T) (hb : DSs X E body B)
    (hs : ∀ x, foldedSetIterable iter X.env x = pure x := by intro _; rfl) : DS X E (.For tg iter body [] pos) (forS g T B) :=
  PS.conv (ps_for hp hc hi hg hb hs) fun σ H D ⟨ι, env, ms, r, ev, o⟩ => by
    refine ⟨ι, env, ms, r, ev, ?_⟩
    unfold forS at o
    cases q : g env ms with
    | bad => rw [q] at o; exact o
    | exc x ms1 => rw [q] at o; exact o
    | ok s ms1 =>
      simp only [q, bind_ok] at o
      intro J ι1 H1 vs R1 l1 rs jok
      refine ⟨fun i m σ H => ∃ ι' env' ms', Rel X.K ι' H ms' ∧ EnvOk X.K ι' H env' σ ∧ Rps X.K ι' H s.ds vs ∧ OutS X.K E ι' H (forLoop s.nx (turnOf T B) m i env' ms') D, ⟨s.n, ι1, env, ms1, R1, ev.mono l1, rs, OutS.from l1 o⟩, ?_⟩
      rintro i m σ2 H2 ⟨ι2, env2, ms2, R2, ev2, rs2, o2⟩
      cases m with
      | zero => exact o2.elim
      | succ m =>
        have js := jok ι2 H2 ms2 i R2 rs2
        unfold forLoop at o2
        cases w : s.nx i ms2 with
        | bad => simp only [w] at o2; exact o2.elim
        | stop =>
          simp only [w] at o2
          rw [w] at js
          exact .inl ⟨js, o2 σ2 ι2 H2 R2 .refl ev2⟩
        | item d =>
          simp only [w] at o2
          rw [w] at js
          refine .inr ⟨js.1, fun σ H => ∃ ι' env' ms', Rel X.K ι' H ms' ∧ EnvOk X.K ι' H env' σ ∧ Rps X.K ι' H s.ds vs ∧ OutS X.K E ι' H (forLoop s.nx (turnOf T B) m (i + 1) env' ms') D, fun σ' H' h => ⟨m, Nat.lt_succ_self m, h⟩, fun x H' hy => ?_⟩
          obtain ⟨R3, l3, rd⟩ := js.2 x H' hy
          have rs3 := Rps.mono l3 _ _ rs2
          have o3 := OutS.from l3 o2
          refine ⟨ι2, env2, ms2, d, R3, ev2.mono l3, rd, ?_⟩
          unfold turnOf at o3
          cases q3 : T d env2 ms2 with
          | bad => simp only [q3] at o3; exact o3
          | exc x ms3 => simp only [q3] at o3; exact o3
          | ok env3 ms3 =>
            simp only [q3, bind_ok] at o3
            intro σ4 ι4 H4 R4 l4 ev4
            refine ⟨ι4, env3, ms3, R4, ev4, ?_⟩
            have rs4 := Rps.mono l4 _ _ rs3
            have o4 := OutS.from l4 o3
            cases q5 : B env3 ms3 with
            | bad => simp only [q5] at o4; exact o4
            | exc x ms5 => simp only [q5] at o4; exact o4
            | ok a ms5 =>
              simp only [q5, bind_ok] at o4
              obtain ⟨fl, env5⟩ := a
              cases fl with
              | nx => exact fun σ5 ι5 H5 R5 l5 ev5 => ⟨ι5, env5, ms5, R5, ev5, Rps.mono l5 _ _ rs4, OutS.from l5 o4⟩
              | cont => exact fun σ5 ι5 H5 R5 l5 ev5 => ⟨ι5, env5, ms5, R5, ev5, Rps.mono l5 _ _ rs4, OutS.from l5 o4⟩
              | brk => exact o4
              | ret d => exact o4
theorem s_while (n : Nat) (hp : PassesOwn (model X.prog X.w) X.A X.env X.xe) (hc : DT X E c t) (hb : DSs X E body B) : DS X E (.While c body [] pos) (whileLoop t B n) :=
  PS.conv (ps_while hp hc hb) fun σ H D ⟨ι, env, ms, r, ev, o⟩ => by
    refine ⟨fun m σ H => ∃ ι' env' ms', Rel X.K ι' H ms' ∧ EnvOk X.K ι' H env' σ ∧ OutS X.K E ι' H (whileLoop t B m env' ms') D, ⟨n, ι, env, ms, r, ev, o⟩, ?_⟩
    rintro m σ2 H2 ⟨ι2, env2, ms2, R2, ev2, o2⟩
    cases m with
    | zero => exact o2.elim
    | succ m =>
      unfold whileLoop at o2
      refine tR_seqS R2 ev2 o2 fun ι3 H3 ms3 b b' B3 o3 => ?_
      obtain rfl : b' = b := B3.r
      cases b' with
      | false => exact o3 σ2 ι3 H3 B3.rel .refl B3.env
      | true =>
        refine ⟨fun σ H => ∃ ι' env' ms', Rel X.K ι' H ms' ∧ EnvOk X.K ι' H env' σ ∧ OutS X.K E ι' H (whileLoop t B m env' ms') D, fun σ' H' h => ⟨m, Nat.lt_succ_self m, h⟩, ι3, env2, ms3, B3.rel, B3.env, ?_⟩
        simp only [if_true] at o3
        cases q5 : B env2 ms3 with
        | bad => simp only [q5] at o3; exact o3
        | exc x ms5 => simp only [q5] at o3; exact o3
        | ok a ms5 =>
          simp only [q5, bind_ok] at o3
          obtain ⟨fl, env5⟩ := a
          cases fl with
          | nx => exact fun σ5 ι5 H5 R5 l5 ev5 => ⟨ι5, env5, ms5, R5, ev5, OutS.from l5 o3⟩
          | cont => exact fun σ5 ι5 H5 R5 l5 ev5 => ⟨ι5, env5, ms5, R5, ev5, OutS.from l5 o3⟩
          | brk => exact o3
          | ret d => exact o3
end
end DL

set_option maxHeartbeats 1000000
namespace DL
open PySem PySem.Spec L2
open PyProof.Rows hiding St

/-! ### comprehensions -/
@[simp] def noExc {α : Type} (r : Res α) : Res α := match r with
  | .exc _ _ => .bad
  | r => r
abbrev E00 : EW := fun _ _ _ => False
def compLoop (nx : Nat → MS → WOut) (step : D → MS → Res (Option D)) : Nat → Nat → List D → MS → Res (List D)
  | 0, _, _, _ => .bad
  | n + 1, i, acc, ms => match nx i ms with
    | .bad => .bad
    | .stop => .ok acc ms
    | .item d => (step d ms).bind fun o ms1 => match o with
      | none => compLoop nx step n (i + 1) acc ms1
      | some y => if acc.length < LIM then compLoop nx step n (i + 1) (acc ++ [y]) ms1 else .bad
@[simp] def wipeE (env : Env) : List Nat → Env
  | [] => env
  | v :: vs => (wipeE env vs).set v none
@[simp] def yesT (_ : Env) (ms : MS) : Res Bool := .ok true ms
@[simp] def stepOf (T : TF) (t : Env → MS → Res Bool) (f : Env → MS → Res D) (env : Env) : D → MS → Res (Option D) := fun d ms =>
  noExc ((T d env ms).bind fun env1 ms1 => (t env1 ms1).bind fun b ms2 => if b = true then (f env1 ms2).bind fun y ms3 => .ok (some y) ms3 else .ok none ms2)
@[simp] def compE (mk : List D → MS → Res D) (g : Env → MS → Res Src) (T : TF) (t : Env → MS → Res Bool) (f : Env → MS → Res D) (vs : List Nat) (env : Env) (ms : MS) : Res D :=
  (g env ms).bind fun s ms1 => (noExc (compLoop s.nx (stepOf T t f (wipeE env vs)) s.n 0 [] ms1)).bind fun acc ms2 => mk acc ms2
/-- the ends of a comprehension -/
@[simp] def endL (acc : List D) (ms : MS) : Res D := .ok (.lst acc) ms
@[simp] def endM (acc : List D) (ms : MS) : Res D := .ok (.ptr ms.length) (ms ++ [.lst acc])
section
variable {K : PySem.W.Frag} {E : EW} {ι ι' ι2 : Ct} {H H' H2 : Hp} {ms : MS} {D0 : Addr}
theorem EnvOk.wipe {env : Env} {σ : St} (h : EnvOk K ι H env σ) : ∀ vs : List Nat, EnvOk K ι H (wipeE env vs) (L2.wipe σ vs)
  | [] => h
  | v :: vs => by
    have ih := EnvOk.wipe h vs
    refine ⟨by show ((L2.wipe σ vs).set v none).length = ((wipeE env vs).set v none).length; rw [List.length_set, List.length_set]; exact ih.1, fun i d e => ?_⟩
    have e' : ((wipeE env vs).set v none)[i]? = some (some d) := e
    by_cases hi : v = i
    · subst hi
      by_cases hv : v < (wipeE env vs).length
      · rw [List.getElem?_set_self hv] at e'; cases e'
      · rw [List.getElem?_eq_none (by simpa using hv)] at e'; cases e'
    · rw [List.getElem?_set_ne hi] at e'
      obtain ⟨x, e1, e2⟩ := ih.2 i d e'
      refine ⟨x, ?_, e2⟩
      show ((L2.wipe σ vs).set v none)[i]? = _
      rw [List.getElem?_set_ne hi]
      exact e1
/-- a place is taken for a list that is being made -/
theorem Rel.banned (R : Rel K ι H ms) (hp : H D0 = none) : Rel K (ι.ban D0) (upd H D0 (.lst [])) ms := by
  have hno := R.fresh hp
  have ne : ∀ q o, H q = some o → q ≠ D0 := fun q o e => ne_of_none e hp
  have bn : ∀ d v, Rp K ι H d v → Rp K (ι.ban D0) (upd H D0 (.lst [])) d v := Rp.ban (p := D0) (fun q xs e n => ⟨by rw [upd_ne (ne q _ e)]; exact e, Ct.ban_no.mpr ⟨n, ne q _ e⟩⟩) (fun q xs e => by rw [upd_ne (ne q _ e)]; exact e) (fun q o u e => by rw [upd_ne (ne q _ e)]; exact e) (fun _ _ h => h)
  have bns : ∀ d v, Rps K ι H d v → Rps K (ι.ban D0) (upd H D0 (.lst [])) d v := Rps.ban (p := D0) (fun q xs e n => ⟨by rw [upd_ne (ne q _ e)]; exact e, Ct.ban_no.mpr ⟨n, ne q _ e⟩⟩) (fun q xs e => by rw [upd_ne (ne q _ e)]; exact e) (fun q o u e => by rw [upd_ne (ne q _ e)]; exact e) (fun _ _ h => h)
  refine ⟨R.len, R.nd, fun n p c h1 h2 => ?_, fun q hq => ?_⟩
  · have hc := R.ok n p c h1 h2
    have hn : p ≠ D0 := fun e => hc.there.1 (e ▸ hp)
    cases c with
    | lst ds => obtain ⟨xs, a, b⟩ := hc; exact ⟨xs, by rw [upd_ne hn]; exact a, bns _ _ b⟩
    | obj nm fs => obtain ⟨C, dx, vs, a0, a, b, c⟩ := hc; exact ⟨C, dx, vs, a0, by rw [upd_ne hn]; exact a, b, bns _ _ c⟩
    | dK fs => obtain ⟨vs, a, b, c⟩ := hc; exact ⟨vs, by rw [upd_ne hn]; exact a, b, bns _ _ c⟩
    | dT fs => obtain ⟨vs, a, b, c⟩ := hc; exact ⟨vs, by rw [upd_ne hn]; exact a, b, bns _ _ c⟩
  · rcases List.mem_cons.mp hq with e | hq
    · rw [e]; exact ⟨hno.1, _, upd_same⟩
    · obtain ⟨a, xs, e⟩ := R.fb q hq
      exact ⟨a, xs, by rw [upd_ne (ne q _ e)]; exact e⟩
theorem Rps.banned (R : Rel K ι H ms) (hp : H D0 = none) {ds : List D} {vs : List V} (r : Rps K ι H ds vs) : Rps K (ι.ban D0) (upd H D0 (.lst [])) ds vs := by
  have ne : ∀ q o, H q = some o → q ≠ D0 := fun q o e => ne_of_none e hp
  exact Rps.ban (p := D0) (fun q xs e n => ⟨by rw [upd_ne (ne q _ e)]; exact e, Ct.ban_no.mpr ⟨n, ne q _ e⟩⟩) (fun q xs e => by rw [upd_ne (ne q _ e)]; exact e) (fun q o u e => by rw [upd_ne (ne q _ e)]; exact e) (fun _ _ h => h) ds vs r
theorem EnvOk.banned (R : Rel K ι H ms) (hp : H D0 = none) {env : Env} {σ : St} (ev : EnvOk K ι H env σ) : EnvOk K (ι.ban D0) (upd H D0 (.lst [])) env σ := by
  have ne : ∀ q o, H q = some o → q ≠ D0 := fun q o e => ne_of_none e hp
  exact ⟨ev.1, fun i d e => let ⟨v, a, b⟩ := ev.2 i d e; ⟨v, a, Rp.ban (p := D0) (fun q xs e n => ⟨by rw [upd_ne (ne q _ e)]; exact e, Ct.ban_no.mpr ⟨n, ne q _ e⟩⟩) (fun q xs e => by rw [upd_ne (ne q _ e)]; exact e) (fun q o u e => by rw [upd_ne (ne q _ e)]; exact e) (fun _ _ h => h) d v b⟩⟩
/-- the list at a banned place becomes another one -/
theorem put_l {xs ys : List V} (R : Rel K (ι.ban D0) H ms) : (∀ q zs, H q = some (.lst zs) → (ι.ban D0).no q → upd H D0 (.lst ys) q = some (.lst zs) ∧ (ι.ban D0).no q) ∧ (∀ q zs, H q = some (.tup zs) → upd H D0 (.lst ys) q = some (.tup zs)) ∧ (∀ q o u, H q = some (.frz o u) → upd H D0 (.lst ys) q = some (.frz o u)) := by
  obtain ⟨hn, zs, e⟩ := R.fb D0 (List.mem_cons_self ..)
  refine ⟨fun q ws e2 n => ⟨by rw [upd_ne (Ct.ban_no.mp n).2]; exact e2, n⟩, fun q ws e2 => ?_, fun q o u e2 => ?_⟩
  · rw [upd_ne]
    · exact e2
    · rintro rfl
      rw [e] at e2
      cases e2
  · rw [upd_ne]
    · exact e2
    · rintro rfl
      rw [e] at e2
      cases e2
theorem Rel.put {ys : List V} (R : Rel K (ι.ban D0) H ms) : Rel K (ι.ban D0) (upd H D0 (.lst ys)) ms := by
  obtain ⟨l, t, z⟩ := put_l (xs := []) (ys := ys) R
  obtain ⟨hn, zs, e⟩ := R.fb D0 (List.mem_cons_self ..)
  refine ⟨R.len, R.nd, fun n p c h1 h2 => ?_, fun q hq => ⟨(R.fb q hq).1, ?_⟩⟩
  · have hc := R.ok n p c h1 h2
    have hn : p ≠ D0 := fun e => hn (e ▸ List.mem_of_getElem? h1)
    have bns := Rps.ban (K := K) (p := D0) l t z (fun _ _ h => h)
    cases c with
    | lst ds => obtain ⟨xs, a, b⟩ := hc; exact ⟨xs, by rw [upd_ne hn]; exact a, bns _ _ b⟩
    | obj nm fs => obtain ⟨C, dx, vs, a0, a, b, c⟩ := hc; exact ⟨C, dx, vs, a0, by rw [upd_ne hn]; exact a, b, bns _ _ c⟩
    | dK fs => obtain ⟨vs, a, b, c⟩ := hc; exact ⟨vs, by rw [upd_ne hn]; exact a, b, bns _ _ c⟩
    | dT fs => obtain ⟨vs, a, b, c⟩ := hc; exact ⟨vs, by rw [upd_ne hn]; exact a, b, bns _ _ c⟩
  · by_cases hq2 : q = D0
    · exact ⟨ys, by rw [hq2, upd_same]⟩
    · obtain ⟨_, xs, e⟩ := R.fb q hq
      exact ⟨xs, by rw [upd_ne hq2]; exact e⟩
theorem Rps.put {ys : List V} (R : Rel K (ι.ban D0) H ms) {ds : List D} {vs : List V} (r : Rps K (ι.ban D0) H ds vs) : Rps K (ι.ban D0) (upd H D0 (.lst ys)) ds vs := by
  obtain ⟨l, t, z⟩ := put_l (xs := []) (ys := ys) R
  exact Rps.ban (p := D0) l t z (fun _ _ h => h) _ _ r
theorem EnvOk.put {ys : List V} (R : Rel K (ι.ban D0) H ms) {env : Env} {σ : St} (ev : EnvOk K (ι.ban D0) H env σ) : EnvOk K (ι.ban D0) (upd H D0 (.lst ys)) env σ := by
  obtain ⟨l, t, z⟩ := put_l (xs := []) (ys := ys) R
  exact ⟨ev.1, fun i d e => let ⟨v, a, b⟩ := ev.2 i d e; ⟨v, a, Rp.ban (p := D0) l t z (fun _ _ h => h) d v b⟩⟩
/-- what a banned state grows to -/
theorem ban_form (l : Le (ι.ban D0) H ι2 H2) : ι2 = (⟨ι2.a, ι.f⟩ : Ct).ban D0 := by
  obtain ⟨a, f⟩ := ι2
  have e : f = D0 :: ι.f := l.same
  rw [e]
  rfl
/-- from ahead of the list's making, over a state that grew within -/
theorem Le.within {H0 : Hp} {ι0 : Ct} (h0 : H0 D0 = none) (a : Le ι0 H0 ι H) (b : Le (ι.ban D0) H (ι'.ban D0) H') (hf : ι'.f = ι.f) : Le ι0 H0 ι' H' := by
  have ne : ∀ q o, H0 q = some o → q ≠ D0 := fun q o e => ne_of_none e h0
  obtain ⟨e1, h1⟩ := a.pre
  obtain ⟨e2, h2⟩ := b.pre
  refine ⟨⟨e1 ++ e2, ?_⟩, hf.trans a.same, fun p xs h => b.tup p xs (a.tup p xs h), fun p o u h => b.frz p o u (a.frz p o u h), fun p xs h n => ?_, fun p hp => ?_⟩
  · have : ι'.a = ι.a ++ e2 := h2
    rw [this, h1, List.append_assoc]
  · obtain ⟨c, d⟩ := a.lst p xs h n
    obtain ⟨c2, d2⟩ := b.lst p xs c (Ct.ban_no.mpr ⟨d, ne p _ h⟩)
    exact ⟨c2, (Ct.ban_no.mp d2).1⟩
  · exact (b.keep p (List.mem_cons_of_mem _ (by rw [a.same]; exact hp))).trans (a.keep p hp)
theorem Le.put {H0 : Hp} {ι0 : Ct} {ys : List V} {ms0 : MS} (R0 : Rel K ι0 H0 ms0) (h0 : H0 D0 = none) (a : Le ι0 H0 ι H) : Le ι0 H0 ι (upd H D0 (.lst ys)) := by
  have ne : ∀ q o, H0 q = some o → q ≠ D0 := fun q o e => ne_of_none e h0
  exact ⟨a.pre, a.same, fun p xs h => by rw [upd_ne (ne p _ h)]; exact a.tup p xs h, fun p o u h => by rw [upd_ne (ne p _ h)]; exact a.frz p o u h, fun p xs h n => ⟨by rw [upd_ne (ne p _ h)]; exact (a.lst p xs h n).1, (a.lst p xs h n).2⟩,
    fun p hp => by
      obtain ⟨_, xs, e⟩ := R0.fb p hp
      rw [upd_ne (ne p _ e)]
      exact a.keep p hp⟩
/-- the list is made: it is data, or a cell -/
theorem Rel.done (R : Rel K (ι.ban D0) H ms) : Rel K ι H ms := by
  refine ⟨R.len, R.nd, fun n p c h1 h2 => ?_, fun q hq => R.fb q (List.mem_cons_of_mem _ hq)⟩
  have hc := R.ok n p c h1 h2
  have bns := Rps.ban (K := K) (ι := ι.ban D0) (ι' := ι) (H := H) (H' := H) (p := D0) (fun q xs e n => ⟨e, (Ct.ban_no.mp n).1⟩) (fun _ _ e => e) (fun _ _ _ e => e) (fun _ _ h => h)
  cases c with
  | lst ds => obtain ⟨xs, a, b⟩ := hc; exact ⟨xs, a, bns _ _ b⟩
  | obj nm fs => obtain ⟨C, dx, vs, a0, a, b, c⟩ := hc; exact ⟨C, dx, vs, a0, a, b, bns _ _ c⟩
  | dK fs => obtain ⟨vs, a, b, c⟩ := hc; exact ⟨vs, a, b, bns _ _ c⟩
  | dT fs => obtain ⟨vs, a, b, c⟩ := hc; exact ⟨vs, a, b, bns _ _ c⟩
theorem Rps.done {ds : List D} {vs : List V} (r : Rps K (ι.ban D0) H ds vs) : Rps K ι H ds vs :=
  Rps.ban (K := K) (ι := ι.ban D0) (ι' := ι) (H := H) (H' := H) (p := D0) (fun q xs e n => ⟨e, (Ct.ban_no.mp n).1⟩) (fun _ _ e => e) (fun _ _ _ e => e) (fun _ _ h => h) _ _ r
theorem Rps.doneM {ds : List D} {vs : List V} (r : Rps K (ι.ban D0) H ds vs) : Rps K (ι.push D0) H ds vs :=
  Rps.ban (K := K) (ι := ι.ban D0) (ι' := ι.push D0) (H := H) (H' := H) (p := D0) (fun q xs e n => ⟨e, fun hm => (by
    rcases List.mem_append.mp hm with z | z
    · exact (Ct.ban_no.mp n).1.1 z
    · exact (Ct.ban_no.mp n).2 (by simpa using z)), (Ct.ban_no.mp n).1.2⟩) (fun _ _ e => e) (fun _ _ _ e => e) (fun n q h => by
      show (ι.a ++ [D0])[n]? = some q
      have h' : ι.a[n]? = some q := h
      rw [List.getElem?_append_left (List.getElem?_eq_some_iff.mp h').1]
      exact h') _ _ r
theorem Rel.doneM {ds : List D} {xs : List V} (R : Rel K (ι.ban D0) H ms) (hf : D0 ∉ ι.f) (hD : H D0 = some (.lst xs)) (r : Rps K (ι.ban D0) H ds xs) : Rel K (ι.push D0) H (ms ++ [.lst ds]) := by
  have hn : D0 ∉ ι.a := (R.fb D0 (List.mem_cons_self ..)).1
  refine ⟨?_, ?_, fun n p c h1 h2 => ?_, fun q hq => ⟨fun hm => ?_, (R.fb q (List.mem_cons_of_mem _ hq)).2⟩⟩
  · show (ι.a ++ [D0]).length = _
    rw [List.length_append, List.length_append]
    exact congrArg (· + 1) R.len
  · show (ι.a ++ [D0]).Nodup
    rw [List.nodup_append]
    refine ⟨R.nd, by simp, fun a ha b hb e => ?_⟩
    have : b = D0 := by simpa using hb
    subst this
    subst e
    exact hn ha
  · have h1' : (ι.a ++ [D0])[n]? = some p := h1
    have hl : ι.a.length = ms.length := R.len
    by_cases hlt : n < ι.a.length
    · rw [List.getElem?_append_left hlt] at h1'
      rw [List.getElem?_append_left (by omega)] at h2
      have hc := R.ok n p c h1' h2
      cases c with
      | lst ds => obtain ⟨xs, a, b⟩ := hc; exact ⟨xs, a, Rps.doneM b⟩
      | obj nm fs => obtain ⟨C, dx, vs, a0, a, b, c⟩ := hc; exact ⟨C, dx, vs, a0, a, b, Rps.doneM c⟩
      | dK fs => obtain ⟨vs, a, b, c⟩ := hc; exact ⟨vs, a, b, Rps.doneM c⟩
      | dT fs => obtain ⟨vs, a, b, c⟩ := hc; exact ⟨vs, a, b, Rps.doneM c⟩
    · rw [List.getElem?_append_right (by omega)] at h1'
      rw [List.getElem?_append_right (by omega), ← hl] at h2
      have hz : n - ι.a.length = 0 := by
        have := (List.getElem?_eq_some_iff.mp h1').1
        simp only [List.length_cons, List.length_nil] at this
        omega
      rw [hz] at h1' h2
      simp at h1' h2
      subst h1'
      subst h2
      exact ⟨xs, hD, Rps.doneM r⟩
  · rcases List.mem_append.mp hm with z | z
    · exact (R.fb q (List.mem_cons_of_mem _ hq)).1 z
    · exact hf (by
        have e : q = D0 := by simpa using z
        exact e ▸ hq)
theorem Le.doneM {H0 : Hp} {ι0 : Ct} (h0 : H0 D0 = none) (a : Le ι0 H0 ι H) : Le ι0 H0 (ι.push D0) H := by
  obtain ⟨e1, h1⟩ := a.pre
  refine ⟨⟨e1 ++ [D0], by show ι.a ++ [D0] = _; rw [h1, List.append_assoc]⟩, a.same, a.tup, a.frz, fun p xs h n => ⟨(a.lst p xs h n).1, fun hm => ?_, (a.lst p xs h n).2.2⟩, a.keep⟩
  rcases List.mem_append.mp hm with z | z
  · exact (a.lst p xs h n).2.1 z
  · exact ne_of_none h h0 (by simpa using z)
/-- what the end of a comprehension gives -/
def EndOk (mk : List D → MS → Res D) : Prop := ∀ (K : PySem.W.Frag) (E : EW) (ι0 ι : Ct) (H0 H : Hp) (ms : MS) (D0 : Addr) (ds : List D) (xs : List V) (Q : VK), Rel K (ι.ban D0) H ms → D0 ∉ ι.f → H0 D0 = none → Le ι0 H0 ι H → H D0 = some (.lst xs) → Rps K (ι.ban D0) H ds xs → Out K E (Rp K) ι0 H0 (mk ds ms) Q → Q (.ref D0) H
theorem endL_ok : EndOk endL := fun K E ι0 ι H0 H ms D0 ds xs Q R hf h0 l hD r o => o _ ι H R.done l ⟨D0, xs, rfl, hD, ⟨(R.fb D0 (List.mem_cons_self ..)).1, hf⟩, Rps.done r⟩
theorem endM_ok : EndOk endM := fun K E ι0 ι H0 H ms D0 ds xs Q R hf h0 l hD r o => o _ (ι.push D0) H (R.doneM hf hD r) (Le.doneM h0 l) ⟨D0, rfl, by
  show (ι.a ++ [D0])[ms.length]? = some D0
  have hl : ι.a.length = ms.length := R.len
  rw [← hl, List.getElem?_append_right (Nat.le_refl _)]
  simp⟩
end
theorem wipe_get {σ : St} {j : Nat} : ∀ vs : List Nat, (L2.wipe σ vs)[j]? = if j ∈ vs then (if j < σ.length then some none else none) else σ[j]?
  | [] => by rw [if_neg (by simp)]; rfl
  | v :: vs => by
    show ((L2.wipe σ vs).set v none)[j]? = _
    by_cases h : v = j
    · subst h
      rw [if_pos (List.mem_cons_self ..)]
      by_cases hl : v < σ.length
      · rw [if_pos hl, List.getElem?_set_self (by rw [wipe_length]; exact hl)]
      · rw [if_neg hl, List.getElem?_eq_none (by rw [List.length_set, wipe_length]; omega)]
    · rw [List.getElem?_set_ne h, wipe_get vs]
      have e : (j ∈ v :: vs) ↔ j ∈ vs := by
        rw [List.mem_cons]
        exact ⟨fun q => q.resolve_left (fun z => h z.symm), .inr⟩
      simp only [e]
theorem wipe_set {σ : St} {i : Nat} {a : Option V} {vs : List Nat} (h : i ∈ vs) : L2.wipe (σ.set i a) vs = L2.wipe σ vs := by
  apply List.ext_getElem?
  intro j
  rw [wipe_get, wipe_get, List.length_set]
  by_cases hj : j ∈ vs
  · rw [if_pos hj, if_pos hj]
  · rw [if_neg hj, if_neg hj, List.getElem?_set_ne (fun (e : i = j) => hj (e ▸ h))]
theorem wipe_wipe {σ : St} {vs : List Nat} : L2.wipe (L2.wipe σ vs) vs = L2.wipe σ vs := by
  apply List.ext_getElem?
  intro j
  rw [wipe_get, wipe_length, wipe_get]
  by_cases hj : j ∈ vs
  · rw [if_pos hj, if_pos hj]
  · rw [if_neg hj]
/-- a target that stores into the slots vs alone -/
def TOk (K : PySem.W.Frag) (E : EW) (vs : List Nat) (g : TG) (T : TF) : Prop := ∀ v σ σ0 H Q, L2.wipe σ vs = L2.wipe σ0 vs → tG K E T v σ H Q → g v σ H fun σ2 H2 => L2.wipe σ2 vs = L2.wipe σ0 vs ∧ Q σ2 H2
def TsOk (K : PySem.W.Frag) (E : EW) (vs : List Nat) (g : TGs) (T : List D → Env → MS → Res Env) : Prop := ∀ v σ σ0 H Q, L2.wipe σ vs = L2.wipe σ0 vs → tGs K E T v σ H Q → g v σ H fun σ2 H2 => L2.wipe σ2 vs = L2.wipe σ0 vs ∧ Q σ2 H2
section
variable {K : PySem.W.Frag} {E : EW} {vs : List Nat}
theorem k_name {i : Nat} (h : i ∈ vs) : TOk K E vs (gName i) (nameT i) := fun v σ σ0 H Q e ⟨ι, env, ms, d, r, ev, rd, o⟩ => ⟨(wipe_set h).trans e, o _ ι H r .refl (ev.set rd i)⟩
theorem k_nil : TsOk K E vs gNil nilT := fun v σ σ0 H Q e ⟨ι, env, ms, ds, r, ev, rd, o⟩ => by
  cases ds with
  | nil => cases rd; exact ⟨rfl, e, o σ ι H r .refl ev⟩
  | cons d ds => exact o.elim
theorem k_cons {i : Nat} {u : TGs} {Ts : List D → Env → MS → Res Env} (h : i ∈ vs) (hs : TsOk K E vs u Ts) : TsOk K E vs (gCons (gName i) u) (consT (nameT i) Ts) := fun v σ σ0 H Q e ⟨ι, env, ms, ds, r, ev, rd, o⟩ => by
  cases ds with
  | nil => exact o.elim
  | cons d ds =>
    obtain ⟨x, xr, rfl, h1, h2⟩ := rd
    exact ⟨x, xr, rfl, hs xr _ σ0 H Q ((wipe_set h).trans e) ⟨ι, env.set i (some d), ms, ds, r, ev.set h1 i, h2, o⟩⟩
theorem k_tup {n : Nat} {u : TGs} {Ts : List D → Env → MS → Res Env} (hs : TsOk K E vs u Ts) : TOk K E vs (gTup K n u) (tupT n Ts) := fun v σ σ0 H Q e ⟨ι, env, ms, d, r, ev, rd, o⟩ => by
  cases d with
  | tup ds =>
    obtain ⟨p, xs, rfl, hq, rs⟩ := rd
    have o' : OutT K E ι H (if ds.length = n then Ts ds env ms else .bad) Q := o
    by_cases h : ds.length = n
    · rw [if_pos h] at o'
      exact ⟨p, xs, rfl, hq, by rw [rs.length]; exact h, hs xs σ σ0 H Q e ⟨ι, env, ms, ds, r, ev, rs, o'⟩⟩
    · rw [if_neg h] at o'; exact o'.elim
  | _ => exact o.elim
end
theorem PTs.conv {X : Cx} {ifs : List Expr} {t t' : TT} (h : PTs X ifs t) (c : ∀ σ H Q, t' σ H Q → t σ H Q) : PTs X ifs t' := ⟨fun pins s σ H Q I q => h.run pins s σ H Q I (c σ H Q q)⟩
theorem ts_nil {X : Cx} {E : EW} : PTs X [] (tT X.K E yesT) := PTs.conv pts_nil fun σ H Q ⟨ι, env, ms, r, ev, o⟩ => o true ι H r .refl rfl
theorem ts_one {X : Cx} {E : EW} {c : Expr} {t : Env → MS → Res Bool} (h : DT X E c t) : PTs X [c] (tT X.K E t) := pts_one h

section
variable {X : Cx} {E : EW}
theorem comp_read {mk : List D → MS → Res D} (hmk : EndOk mk) {K : PySem.W.Frag} {g : Env → MS → Res Src} {gg : TG} {T : TF} {t : Env → MS → Res Bool} {f : Env → MS → Res D} {vs : List Nat} (tk : TOk K E00 vs gg T)
    {σ : St} {H : Hp} {Q : VK} (h : tD K E (compE mk g T t f vs) σ H Q) : tLc (tI K E g) gg (tT K E00 t) (tD K E00 f) vs σ H Q := by
  obtain ⟨ι, env, ms, r, ev, o⟩ := h
  refine ⟨ι, env, ms, r, ev, ?_⟩
  unfold compE at o
  cases q : g env ms with
  | bad => rw [q] at o; exact o
  | exc x ms1 => rw [q] at o; exact o
  | ok s ms1 =>
    simp only [q, bind_ok] at o
    intro J ι1 H1 us R1 l1 rs jok D0 h0
    have o := Out.from l1 o
    have hfr := R1.fresh h0
    refine ⟨fun i m H2 => ∃ ι2 ms2 acc xs, Rel K (ι2.ban D0) H2 ms2 ∧ EnvOk K (ι2.ban D0) H2 env σ ∧ Rps K (ι2.ban D0) H2 s.ds us ∧ Rps K (ι2.ban D0) H2 acc xs ∧ H2 D0 = some (.lst xs) ∧ ι2.f = ι1.f ∧ Le ι1 H1 ι2 H2 ∧ Out K E (Rp K) ι1 H1 ((noExc (compLoop s.nx (stepOf T t f (wipeE env vs)) m i acc ms2)).bind fun acc ms2 => mk acc ms2) Q,
      ⟨s.n, ι1, ms1, [], [], R1.banned h0, EnvOk.banned R1 h0 (ev.mono l1), Rps.banned R1 h0 rs, rfl, upd_same, rfl, Le.new R1 h0, o⟩, ?_⟩
    rintro i m H2 ⟨ι2, ms2, acc, xs, R2, ev2, rs2, ra2, hD2, hf2, l2, o2⟩
    cases m with
    | zero => exact o2.elim
    | succ m =>
      have js := jok (ι2.ban D0) H2 ms2 i R2 rs2
      unfold compLoop at o2
      cases w : s.nx i ms2 with
      | bad => simp only [w] at o2; exact o2.elim
      | stop =>
        simp only [w] at o2
        rw [w] at js
        exact .inl ⟨js, hmk K E ι1 ι2 H1 H2 ms2 D0 acc xs Q R2 (by rw [hf2]; exact hfr.2) h0 l2 hD2 ra2 o2⟩
      | item d =>
        simp only [w] at o2
        rw [w] at js
        refine .inr ⟨js.1, fun H2 => ∃ ι2 ms2 acc xs, Rel K (ι2.ban D0) H2 ms2 ∧ EnvOk K (ι2.ban D0) H2 env σ ∧ Rps K (ι2.ban D0) H2 s.ds us ∧ Rps K (ι2.ban D0) H2 acc xs ∧ H2 D0 = some (.lst xs) ∧ ι2.f = ι1.f ∧ Le ι1 H1 ι2 H2 ∧ Out K E (Rp K) ι1 H1 ((noExc (compLoop s.nx (stepOf T t f (wipeE env vs)) m (i + 1) acc ms2)).bind fun acc ms2 => mk acc ms2) Q,
          fun H' h => ⟨m, Nat.lt_succ_self m, h⟩, fun x H' hy => ?_⟩
        obtain ⟨R3, l3, rd⟩ := js.2 x H' hy
        -- what stands wherever the turn has come to
        have grown : ∀ {ι5 : Ct} {H5 : Hp} {ms5 : MS}, Rel K ι5 H5 ms5 → Le (ι2.ban D0) H2 ι5 H5 → ∃ ι6, ι5 = ι6.ban D0 ∧ ι6.f = ι1.f ∧ Le ι1 H1 ι6 H5 ∧ H5 D0 = some (.lst xs) := fun {ι5 H5 ms5} R5 l5 => by
          have e := ban_form l5
          refine ⟨⟨ι5.a, ι2.f⟩, e, hf2, Le.within (ι' := ⟨ι5.a, ι2.f⟩) h0 l2 (by rw [← e]; exact l5) rfl, ?_⟩
          rw [l5.keep D0 (List.mem_cons_self ..)]
          exact hD2
        unfold stepOf at o2
        refine tk x (L2.wipe σ vs) σ H' _ wipe_wipe ⟨ι2.ban D0, wipeE env vs, ms2, d, R3, (ev2.wipe vs).mono l3, rd, ?_⟩
        cases q3 : T d (wipeE env vs) ms2 with
        | bad => simp only [q3] at o2; exact o2.elim
        | exc x ms3 => simp only [q3] at o2; exact o2.elim
        | ok env3 ms3 =>
          simp only [q3, bind_ok] at o2
          intro σ3 ι3 H3 R3' l3' ev3
          refine ⟨ι3, env3, ms3, R3', ev3, ?_⟩
          cases q4 : t env3 ms3 with
          | bad => simp only [q4] at o2; exact o2.elim
          | exc x ms4 => simp only [q4] at o2; exact o2.elim
          | ok b ms4 =>
            simp only [q4, bind_ok] at o2
            intro b' ι4 H4 R4 l4 eb
            obtain rfl : b' = b := eb
            have l24 := (l3.trans l3').trans l4
            cases b' with
            | false =>
              simp only [Bool.false_eq_true, if_false] at o2 ⊢
              obtain ⟨ι6, e6, f6, le6, hD6⟩ := grown R4 l24
              rw [e6] at R4 l24
              exact ⟨ι6, ms4, acc, xs, R4, ev2.mono l24, Rps.mono l24 _ _ rs2, Rps.mono l24 _ _ ra2, hD6, f6, le6, o2⟩
            | true =>
              simp only [if_true] at o2 ⊢
              refine ⟨ι4, env3, ms4, R4, ev3.mono l4, ?_⟩
              cases q5 : f env3 ms4 with
              | bad => simp only [q5] at o2; exact o2.elim
              | exc x ms5 => simp only [q5] at o2; exact o2.elim
              | ok y ms5 =>
                simp only [q5, bind_ok] at o2
                intro yv ι5 H5 R5 l5 ry
                have l25 := l24.trans l5
                obtain ⟨ι6, e6, f6, le6, hD6⟩ := grown R5 l25
                rw [e6] at R5 l25 ry
                have o3 : Out K E (Rp K) ι1 H1 ((noExc (if acc.length < LIM then compLoop s.nx (stepOf T t f (wipeE env vs)) m (i + 1) (acc ++ [y]) ms5 else .bad)).bind fun acc ms2 => mk acc ms2) Q := o2
                by_cases hl : acc.length < LIM
                · rw [if_pos hl] at o3
                  have rx := Rps.mono l25 _ _ ra2
                  exact ⟨xs, hD6, by rw [rx.length, ← lim_eq]; exact hl, ι6, ms5, acc ++ [y], xs ++ [yv], R5.put, EnvOk.put R5 (ev2.mono l25), Rps.put R5 (Rps.mono l25 _ _ rs2), Rps.put R5 (rx.append (Rps.mk1 ry)), upd_same, f6, Le.put R1 h0 le6, o3⟩
                · rw [if_neg hl] at o3; exact o3.elim
theorem d_comp {mk : List D → MS → Res D} (hmk : EndOk mk) {elt tg iter : Expr} {ifs : List Expr} {scope : Scope} {own : List (Str × Nat)} {pos : Pos} {g : Env → MS → Res Src} {gg : TG} {T : TF} {t : Env → MS → Res Bool} {f : Env → MS → Res D}
    (hc : X.calm = true) (hN : X.N.Nodup) (hi : DI X E tg iter g) (ok : BlkOk X.N X.env.scope scope own)
    (hg : ∀ (s : Shared) (H : Hp) (C : Addr) (cl : List (Str × Addr)) (fp : List Addr), PG (X.blk s H scope (compEnvC scope cl C X.env) fp) tg gg) (tk : TOk X.K E00 (own.map (·.2)) gg T)
    (ht : ∀ (s : Shared) (H : Hp) (C : Addr) (cl : List (Str × Addr)) (fp : List Addr), PTs (X.blk s H scope (compEnvC scope cl C X.env) fp) ifs (tT X.K E00 t))
    (he : ∀ (s : Shared) (H : Hp) (C : Addr) (cl : List (Str × Addr)) (fp : List Addr), PE (X.blk s H scope (compEnvC scope cl C X.env) fp) elt (tD X.K E00 f)) (hs : ∀ x, foldedSetIterable iter X.env x = pure x := by intro _; rfl) :
    DE X E (.ListComp elt [⟨tg, iter, ifs, 0⟩] scope pos) (compE mk g T t f (own.map (·.2))) :=
  PE.conv (pe_lc hc hN hi ok hg ht he hs) fun _ _ _ h => comp_read hmk tk h
theorem s_setComp {mk : List D → MS → Res D} (hmk : EndOk mk) {i : Nat} {y : Str} {py spos : Pos} {elt tg iter : Expr} {ifs : List Expr} {scope : Scope} {own : List (Str × Nat)} {pos : Pos} {g : Env → MS → Res Src} {gg : TG} {T : TF} {t : Env → MS → Res Bool} {f : Env → MS → Res D}
    (hc : X.calm = true) (hN : X.N.Nodup) (hy : X.N[i]? = some y) (hyl : X.env.scope.names.lookup y = some .local)
    (hsw : swapsWith (.ListComp elt [⟨tg, iter, ifs, 0⟩] scope pos) (some (.Name y py)) spos.line X.env = pure true) (hi : DI X E tg iter g) (ok : BlkOk X.N X.env.scope scope own)
    (hg : ∀ (s : Shared) (H : Hp) (C : Addr) (cl : List (Str × Addr)) (fp : List Addr), PG (X.blk s H scope (compEnvC scope cl C X.env) fp) tg gg) (tk : TOk X.K E00 (own.map (·.2)) gg T)
    (ht : ∀ (s : Shared) (H : Hp) (C : Addr) (cl : List (Str × Addr)) (fp : List Addr), PTs (X.blk s H scope (compEnvC scope cl C X.env) fp) ifs (tT X.K E00 t))
    (he : ∀ (s : Shared) (H : Hp) (C : Addr) (cl : List (Str × Addr)) (fp : List Addr), PE (X.blk s H scope (compEnvC scope cl C X.env) fp) elt (tD X.K E00 f)) (hs : ∀ x, foldedSetIterable iter X.env x = pure x := by intro _; rfl) :
    DS X E (.Assign [.Name y py] (.ListComp elt [⟨tg, iter, ifs, 0⟩] scope pos) spos) (setS i (compE mk g T t f (own.map (·.2)))) :=
  PS.conv (ps_setLc hc hN hy hyl hsw hi ok hg ht he hs) fun σ H D ⟨ι, env, ms, r, ev, o⟩ => comp_read hmk tk (Q := fun x H1 => gName i x σ H1 D.nx) (by
    have z : tR X.K E (Rp X.K) (compE mk g T t f (own.map (·.2))) σ H (fun x H1 => gName i x σ H1 D.nx) := tR_seqS r ev o fun ι1 H1 ms1 a b B o1 => o1 _ ι1 H1 B.rel .refl (B.env.set B.r i)
    exact z)
end
end DL

set_option maxHeartbeats 1000000
namespace DL
open PySem PySem.Spec L2
open PyProof.Rows hiding St

/-! ### what leans on the first cells alone -/
mutual
def lowD (b : Nat) : D → Bool
  | .tup ds => lowDs b ds
  | .lst ds => lowDs b ds
  | .ro ds => lowDs b ds
  | .ptr n => decide (n < b)
  | _ => true
def lowDs (b : Nat) : List D → Bool
  | [] => true
  | d :: ds => lowD b d && lowDs b ds
end
def lowCell (b : Nat) : Cell → Bool
  | .lst ds => lowDs b ds
  | .obj _ fs => lowDs b (fs.map (·.2))
  | .dK fs => lowDs b (fs.map (·.2))
  | .dT fs => lowDs b (fs.map (·.2))
def Tidy (b : Nat) (ms ms1 : MS) : Prop := ∀ n, n < b → ms1[n]? = ms[n]? ∨ ∃ c, ms1[n]? = some c ∧ lowCell b c = true
mutual
/-- the lists that were made behind the entry become data -/
def frz (b : Nat) (ms : MS) : D → Option D
  | .ptr n => if n < b then some (.ptr n) else match ms[n]? with
    | some (.lst ds) => if lowDs b ds = true then some (.lst ds) else none
    | _ => none
  | .tup ds => (frzs b ms ds).map .tup
  | .lst ds => (frzs b ms ds).map .lst
  | .ro ds => (frzs b ms ds).map .ro
  | .non => some .non
  | .bl x => some (.bl x)
  | .int i => some (.int i)
  | .str x => some (.str x)
def frzs (b : Nat) (ms : MS) : List D → Option (List D)
  | [] => some []
  | d :: ds => match frz b ms d, frzs b ms ds with
    | some e, some es => some (e :: es)
    | _, _ => none
end
section
variable {K : PySem.W.Frag} {E : EW} {ι ι1 : Ct} {H H1 : Hp} {ms ms1 : MS}
mutual
theorem Rp.low (hl : ι.a.length = ms.length) : ∀ (d : D) (v : V), Rp K ι H d v → lowD ms.length d = true
  | .non, _, _ => rfl
  | .bl _, _, _ => rfl
  | .int _, _, _ => rfl
  | .str _, _, _ => rfl
  | .tup ds, _, h => by obtain ⟨_, xs, _, _, r⟩ := h; exact Rps.low hl ds xs r
  | .lst ds, _, h => by obtain ⟨_, xs, _, _, _, r⟩ := h; exact Rps.low hl ds xs r
  | .ro ds, _, h => by obtain ⟨_, xs, _, _, r⟩ := h; exact Rps.low hl ds xs r
  | .ptr n, _, h => by
    obtain ⟨p, _, q⟩ := h
    exact decide_eq_true (by rw [← hl]; exact (List.getElem?_eq_some_iff.mp q).1)
theorem Rps.low (hl : ι.a.length = ms.length) : ∀ (ds : List D) (vs : List V), Rps K ι H ds vs → lowDs ms.length ds = true
  | [], _, _ => rfl
  | d :: ds, _, h => by
    obtain ⟨v, r, _, h1, h2⟩ := h
    show (lowD ms.length d && lowDs ms.length ds) = true
    rw [Rp.low hl d v h1, Rps.low hl ds r h2]
    rfl
end
mutual
theorem Rp.back (l : Le ι H ι1 H1) (b : Nat) (hb : b = ι.a.length) : ∀ (d : D) (v : V), lowD b d = true → Rp K ι1 H1 d v → Rp K ι H1 d v
  | .non, _, _, h => h
  | .bl _, _, _, h => h
  | .int _, _, _, h => h
  | .str _, _, _, h => h
  | .tup ds, _, g, h => by obtain ⟨p, xs, e, q, r⟩ := h; exact ⟨p, xs, e, q, Rps.back l b hb ds xs g r⟩
  | .lst ds, _, g, h => by
    obtain ⟨p, xs, e, q, n, r⟩ := h
    obtain ⟨e2, q2⟩ := l.pre
    exact ⟨p, xs, e, q, ⟨fun hm => n.1 (by rw [q2]; exact List.mem_append_left _ hm), by have := n.2; rw [l.same] at this; exact this⟩, Rps.back l b hb ds xs g r⟩
  | .ro ds, _, g, h => by obtain ⟨p, xs, e, q, r⟩ := h; exact ⟨p, xs, e, q, Rps.back l b hb ds xs g r⟩
  | .ptr n, _, g, h => by
    obtain ⟨p, e, q⟩ := h
    obtain ⟨e2, q2⟩ := l.pre
    have hn : n < b := of_decide_eq_true g
    rw [q2, List.getElem?_append_left (by omega)] at q
    exact ⟨p, e, q⟩
theorem Rps.back (l : Le ι H ι1 H1) (b : Nat) (hb : b = ι.a.length) : ∀ (ds : List D) (vs : List V), lowDs b ds = true → Rps K ι1 H1 ds vs → Rps K ι H1 ds vs
  | [], _, _, h => h
  | d :: ds, _, g, h => by
    obtain ⟨v, r, e, h1, h2⟩ := h
    have g' : (lowD b d && lowDs b ds) = true := g
    rw [Bool.and_eq_true] at g'
    exact ⟨v, r, e, Rp.back l b hb d v g'.1 h1, Rps.back l b hb ds r g'.2 h2⟩
end
mutual
theorem Rp.frz (l : Le ι H ι1 H1) (R1 : Rel K ι1 H1 ms1) (b : Nat) (hb : b = ι.a.length) : ∀ (d d' : D) (v : V), frz b ms1 d = some d' → Rp K ι1 H1 d v → Rp K ι H1 d' v
  | .non, _, _, g, h => by cases g; exact h
  | .bl _, _, _, g, h => by cases g; exact h
  | .int _, _, _, g, h => by cases g; exact h
  | .str _, _, _, g, h => by cases g; exact h
  | .tup ds, _, _, g, h => by
    obtain ⟨p, xs, e, q, r⟩ := h
    unfold DL.frz at g
    cases z : DL.frzs b ms1 ds with
    | none => rw [z] at g; cases g
    | some es => rw [z] at g; cases g; exact ⟨p, xs, e, q, Rps.frz l R1 b hb ds es xs z r⟩
  | .lst ds, _, _, g, h => by
    obtain ⟨p, xs, e, q, n, r⟩ := h
    obtain ⟨e2, q2⟩ := l.pre
    unfold DL.frz at g
    cases z : DL.frzs b ms1 ds with
    | none => rw [z] at g; cases g
    | some es => rw [z] at g; cases g; exact ⟨p, xs, e, q, ⟨fun hm => n.1 (by rw [q2]; exact List.mem_append_left _ hm), by have := n.2; rw [l.same] at this; exact this⟩, Rps.frz l R1 b hb ds es xs z r⟩
  | .ro ds, _, _, g, h => by
    obtain ⟨p, xs, e, q, r⟩ := h
    unfold DL.frz at g
    cases z : DL.frzs b ms1 ds with
    | none => rw [z] at g; cases g
    | some es => rw [z] at g; cases g; exact ⟨p, xs, e, q, Rps.frz l R1 b hb ds es xs z r⟩
  | .ptr n, d', _, g, h => by
    obtain ⟨p, e, q⟩ := h
    obtain ⟨e2, q2⟩ := l.pre
    have g0 : (if n < b then some (.ptr n) else match ms1[n]? with | some (.lst ds) => if lowDs b ds = true then some (D.lst ds) else none | _ => none) = some d' := by
      unfold DL.frz at g
      exact g
    by_cases hn : n < b
    · rw [if_pos hn] at g0
      cases g0
      rw [q2, List.getElem?_append_left (by omega)] at q
      exact ⟨p, e, q⟩
    · rw [if_neg hn] at g0
      cases z : ms1[n]? with
      | none => rw [z] at g0; cases g0
      | some c =>
        cases c with
        | lst ds =>
          rw [z] at g0
          have g1 : (if lowDs b ds = true then some (D.lst ds) else none) = some d' := g0
          by_cases hl : lowDs b ds = true
          · rw [if_pos hl] at g1
            cases g1
            obtain ⟨xs, h1, h2⟩ := R1.ok n p _ q z
            refine ⟨p, xs, e, h1, ⟨fun hm => ?_, fun hm => ?_⟩, Rps.back l b hb ds xs hl h2⟩
            · obtain ⟨m, hm⟩ := List.getElem?_of_mem hm
              have hm2 : ι1.a[m]? = some p := by
                rw [q2, List.getElem?_append_left (List.getElem?_eq_some_iff.mp hm).1]
                exact hm
              have := nd_ix R1.nd q hm2
              have := (List.getElem?_eq_some_iff.mp hm).1
              omega
            · exact R1.notf q (by rw [l.same]; exact hm)
          · rw [if_neg hl] at g1; cases g1
        | obj _ _ => rw [z] at g0; cases g0
        | dK _ => rw [z] at g0; cases g0
        | dT _ => rw [z] at g0; cases g0
theorem Rps.frz (l : Le ι H ι1 H1) (R1 : Rel K ι1 H1 ms1) (b : Nat) (hb : b = ι.a.length) : ∀ (ds ds' : List D) (vs : List V), frzs b ms1 ds = some ds' → Rps K ι1 H1 ds vs → Rps K ι H1 ds' vs
  | [], _, _, g, h => by cases g; exact h
  | d :: ds, _, _, g, h => by
    obtain ⟨v, r, e, h1, h2⟩ := h
    unfold DL.frzs at g
    cases z : DL.frz b ms1 d with
    | none => rw [z] at g; cases g
    | some x =>
      cases z2 : DL.frzs b ms1 ds with
      | none => rw [z, z2] at g; cases g
      | some xs =>
        rw [z, z2] at g
        cases g
        exact ⟨v, r, e, Rp.frz l R1 b hb d x v z h1, Rps.frz l R1 b hb ds xs r z2 h2⟩
end
theorem Rel.cut (R : Rel K ι H ms) (l : Le ι H ι1 H1) (R1 : Rel K ι1 H1 ms1) (t : Tidy ms.length ms ms1) : Rel K ι H1 (ms1.take ms.length) ∧ Le ι H ι H1 := by
  obtain ⟨e2, q2⟩ := l.pre
  have hl := R.len
  have hl1 := R1.len
  rw [q2, List.length_append] at hl1
  refine ⟨⟨by rw [List.length_take]; omega, R.nd, fun n p c h1 h2 => ?_, fun p hp => ?_⟩, ⟨⟨[], by simp⟩, rfl, l.tup, l.frz, fun p xs h n => ⟨(l.lst p xs h n).1, n⟩, l.keep⟩⟩
  · have hn : n < ms.length := by rw [← hl]; exact (List.getElem?_eq_some_iff.mp h1).1
    rw [List.getElem?_take_of_lt hn] at h2
    have h1' : ι1.a[n]? = some p := l.at h1
    have hc := R1.ok n p c h1' h2
    have low : lowCell ms.length c = true := by
      rcases t n hn with e | ⟨c', e, g⟩
      · rw [h2] at e
        have ho := R.ok n p c h1 e.symm
        cases c with
        | lst ds => obtain ⟨xs, _, r⟩ := ho; exact Rps.low hl _ _ r
        | obj nm fs => obtain ⟨_, _, _, _, _, _, r⟩ := ho; exact Rps.low hl _ _ r
        | dK fs => obtain ⟨_, _, _, r⟩ := ho; exact Rps.low hl _ _ r
        | dT fs => obtain ⟨_, _, _, r⟩ := ho; exact Rps.low hl _ _ r
      · rw [h2] at e; cases e; exact g
    cases c with
    | lst ds => obtain ⟨xs, a, r⟩ := hc; exact ⟨xs, a, Rps.back l _ hl.symm _ _ low r⟩
    | obj nm fs => obtain ⟨C, dx, vs, a0, a, b, r⟩ := hc; exact ⟨C, dx, vs, a0, a, b, Rps.back l _ hl.symm _ _ low r⟩
    | dK fs => obtain ⟨vs, a, b, r⟩ := hc; exact ⟨vs, a, b, Rps.back l _ hl.symm _ _ low r⟩
    | dT fs => obtain ⟨vs, a, b, r⟩ := hc; exact ⟨vs, a, b, Rps.back l _ hl.symm _ _ low r⟩
  · obtain ⟨a, xs, e⟩ := R1.fb p (by rw [l.same]; exact hp)
    exact ⟨fun hm => a (by rw [q2]; exact List.mem_append_left _ hm), xs, e⟩
end

/-! ### defs -/
def dSp (K : PySem.W.Frag) (n : Nat) (sem : List D → MS → Res D) : Sp := fun vs H Q _ => ∃ ι ms ds, Rel K ι H ms ∧ Rps K ι H ds vs ∧ ds.length = n ∧ Out K E00 (Rp K) ι H (sem ds ms) Q
@[simp] def envAt (N : Nat) (args : List D) : Env := args.map some ++ List.replicate (N - args.length) none
@[simp] def retOf (a : SR) (ms : MS) : Res D := match a with
  | (.nx, _) => .ok .non ms
  | (.ret d, _) => .ok d ms
  | _ => .bad
/-- a def's meaning; its meaning with what was made within thrown away -/
@[simp] def runF (N : Nat) (B : SF) (args : List D) (ms : MS) : Res D := (B (envAt N args) ms).bind retOf
open Classical in
noncomputable def runT (N : Nat) (B : SF) (args : List D) (ms : MS) : Res D := (runF N B args ms).bind fun d ms1 => match frz ms.length ms1 d with
  | some d' => if Tidy ms.length ms ms1 then .ok d' (ms1.take ms.length) else .bad
  | none => .bad
section
variable {P : Program} {w : World} {K : PySem.W.Frag} {mg : Str → Option Value} {base : Heap}
theorem env_at {ι : Ct} {H : Hp} {N : List Str} {ds : List D} {vs : List V} (r : Rps K ι H ds vs) : EnvOk K ι H (envAt N.length ds) (L2.start N vs) := by
  unfold envAt L2.start
  refine ⟨by simp [r.length], fun i d e => ?_⟩
  by_cases hi : i < ds.length
  · rw [List.getElem?_append_left (by simpa using hi), List.getElem?_map] at e
    cases q : ds[i]? with
    | none => rw [q] at e; cases e
    | some d' =>
      rw [q] at e
      cases e
      obtain ⟨v, e1, e2⟩ := r.get q
      refine ⟨v, ?_, e2⟩
      rw [List.getElem?_append_left (by simp [r.length, hi]), List.getElem?_map, e1]
      rfl
  · rw [List.getElem?_append_right (by simpa using Nat.le_of_not_lt hi)] at e
    have := List.getElem?_eq_some_iff.mp e
    obtain ⟨h1, h2⟩ := this
    simp at h2
theorem outS_run {ι : Ct} {H : Hp} {N : Nat} {B : SF} {ds : List D} {ms : MS} {Q : VK} (o : Out K E00 (Rp K) ι H (runF N B ds ms) Q) : OutS K E00 ι H (B (envAt N ds) ms) { nx := fun _ H' => Q .non H', rt := Q } := by
  unfold runF at o
  cases q : B (envAt N ds) ms with
  | bad => rw [q] at o; exact o
  | exc x ms1 => rw [q] at o; exact o
  | ok a ms1 =>
    rw [q] at o
    obtain ⟨fl, env1⟩ := a
    cases fl with
    | nx => exact fun σ' ι' H' R l _ => o .non ι' H' R l rfl
    | brk => exact o.elim
    | cont => exact o.elim
    | ret d => exact o
theorem fn_run {x qual : Str} {st : Stmt} {f : Addr} {fd : FuncData} {N ps : List Str} {k : Nat} {B : SF} (F : Fun K x qual st f fd) (S : FnScope N ps (defScope st))
    (hb : ∀ (cdv : Value) (A : Around) (outer : List PySem.Env) (s : Shared) (H : Hp) (EX : XK), Room k (A.deeper (PyProof.Rows.envOfC qual (defScope st) s.heap.objs.size f cdv)) →
      PSs (cxOf CX0 P w K mg base N qual (defScope st) f cdv A outer s H EX).nox (defBody st) (tS K E00 B)) : FnOk P w K mg base CX0 (k + 1) f fd ps (dSp K ps.length (runF N.length B)) :=
  F.ok S (fun vs H Q E ⟨ι, ms, ds, R, r, hl, o⟩ => r.length.trans hl) fun cdv A outer s H vs Q E hr ⟨ι, ms, ds, R, r, hl, o⟩ => ⟨_, hb cdv A outer s H E hr, ι, _, ms, R, env_at r, outS_run o⟩
theorem fn_runT {x qual : Str} {st : Stmt} {f : Addr} {fd : FuncData} {N ps : List Str} {k : Nat} {B : SF} (F : Fun K x qual st f fd) (S : FnScope N ps (defScope st))
    (hb : ∀ (cdv : Value) (A : Around) (outer : List PySem.Env) (s : Shared) (H : Hp) (EX : XK), Room k (A.deeper (PyProof.Rows.envOfC qual (defScope st) s.heap.objs.size f cdv)) →
      PSs (cxOf CX0 P w K mg base N qual (defScope st) f cdv A outer s H EX).nox (defBody st) (tS K E00 B)) : FnOk P w K mg base CX0 (k + 1) f fd ps (dSp K ps.length (runT N.length B)) :=
  (fn_run F S hb).imp fun vs H Q _ ⟨ι, ms, ds, R, r, hl, o⟩ => ⟨ι, ms, ds, R, r, hl, by
    unfold runT at o
    cases q : runF N.length B ds ms with
    | bad => rw [q] at o; exact o
    | exc x ms1 => rw [q] at o; exact o
    | ok d ms1 =>
      simp only [q, bind_ok] at o
      intro v ι1 H1 R1 l1 rd
      cases z : frz ms.length ms1 d with
      | none => simp only [z] at o; exact o.elim
      | some d' =>
        simp only [z] at o
        by_cases t : Tidy ms.length ms ms1
        · rw [if_pos t] at o
          obtain ⟨R2, l2⟩ := R.cut l1 R1 t
          exact o v ι H1 R2 l2 (Rp.frz l1 R1 _ R.len.symm d d' v z rd)
        · rw [if_neg t] at o; exact o.elim⟩
end
@[simp] def callP (n : Nat) (sem : List D → MS → Res D) (ds : List D) (ms : MS) : Res D := if ds.length = n then noExc (sem ds ms) else .bad
theorem out_noExc {α β : Type} {K : PySem.W.Frag} {E E' : EW} {R : Ct → Hp → α → β → Prop} {ι : Ct} {H : Hp} {r : Res α} {Q : β → Hp → Prop} (o : Out K E R ι H (noExc r) Q) : Out K E' R ι H r Q := by
  cases r with
  | bad => exact o
  | exc x ms => exact o.elim
  | ok a ms => exact o
section
variable {X : Cx} {E : EW} {k n : Nat} {f : Addr} {fd : FuncData} {ps : List Str} {x : Str} {p pos : Pos} {e : Expr} {es : List Expr} {fs : Env → MS → Res (List D)} {sem : List D → MS → Res D}
theorem d_call (G : FnOk X.prog X.w X.K X.mg X.base CX0 k f fd ps (dSp X.K n sem)) (hr : Room k X.A) (hg : Gl X x) (hm : X.mg x = some (.ref f)) (hk : PySem.W.keepIn X.K (.ref f) = true) (hb : Binds X.K fd ps [])
    (ha : DA X E (e :: es) fs) (hdb : (x == ("__debug__" : Str)) = false := by decide) (he : starEach (e :: es) X.env = (false, eval e X.env) :: starEach es X.env := by rfl) (hpl : (backTo pos (starEach es X.env)).any (·.1) = false := by rfl) :
    DE X E (.Call (.Name x p) (e :: es) [] pos) (appE fs (callP n sem)) :=
  PE.conv (pe_call G hr hg hm hk hb .nil pass0 ha hdb he hpl) fun σ H Q ⟨ι, env, ms, r, ev, o⟩ => tR_seq r ev o fun ι1 H1 ms1 ds vs B o1 => by
    unfold callP at o1
    by_cases h : ds.length = n
    · rw [if_pos h] at o1
      rw [List.append_nil]
      exact ⟨ι1, ms1, ds, B.rel, B.r, h, out_noExc o1⟩
    · rw [if_neg h] at o1; exact o1.elim
theorem d_call0 (G : FnOk X.prog X.w X.K X.mg X.base CX0 k f fd ps (dSp X.K n sem)) (hr : Room k X.A) (hg : Gl X x) (hm : X.mg x = some (.ref f)) (hk : PySem.W.keepIn X.K (.ref f) = true) (hb : Binds X.K fd ps [])
    (hdb : (x == ("__debug__" : Str)) = false := by decide) : DE X E (.Call (.Name x p) [] [] pos) (appE nilA (callP n sem)) :=
  PE.conv (pe_call0 G hr hg hm hk hb .nil pass0 hdb) fun σ H Q ⟨ι, env, ms, r, ev, o⟩ => by
    have o1 : Out X.K E (Rp X.K) ι H (callP n sem [] ms) Q := o
    unfold callP at o1
    by_cases h : ([] : List D).length = n
    · rw [if_pos h] at o1
      exact ⟨ι, ms, [], r, rfl, h, out_noExc o1⟩
    · rw [if_neg h] at o1; exact o1.elim
/-! keywords -/
theorem PK.conv {X : Cx} {e : List Keyword} {t t' : TA} (h : PK X e t) (c : ∀ σ H Q, t' σ H Q → t σ H Q) : PK X e t' := ⟨fun pos pins s σ H Q I q => h.run pos pins s σ H Q I (c σ H Q q)⟩
abbrev DK (X : Cx) (E : EW) (es : List Keyword) (f : Env → MS → Res (List D)) : Prop := PK X es (tAr X.K E f)
theorem kw_nil : DK X E [] nilA := PK.conv pk_nil fun σ H Q ⟨ι, env, ms, r, ev, o⟩ => o [] ι H r .refl rfl
theorem kw_cons {nm : Option Str} {kpos : Pos} {kws : List Keyword} {fe : Env → MS → Res D} (ha : DE X E e fe) (hs : DK X E kws fs) : DK X E (⟨nm, e, kpos⟩ :: kws) (consA fe fs) :=
  PK.conv (pk_cons ha hs) fun σ H Q ⟨ι, env, ms, r, ev, o⟩ => by
    refine tR_seq r ev o fun ι1 H1 ms1 d x B1 o1 => ?_
    refine tR_seq B1.rel B1.env o1 fun ι2 H2 ms2 r xs B2 o2 => ?_
    exact o2 _ ι2 H2 B2.rel .refl ⟨x, xs, rfl, Rp.mono B2.le _ _ B1.r, B2.r⟩
end
end DL

set_option maxHeartbeats 1000000
namespace DL
open PySem PySem.Spec L2
open PyProof.Rows hiding St

/-! ### calls by keywords: the values picked in the parameters' order -/
@[simp] def pick {α : Type} (ix : List Nat) (xs : List α) : List α := ix.filterMap fun i => xs[i]?
theorem pick_vals {vs : List V} {us : List Value} (r : Vals vs us) : ∀ ix : List Nat, Vals (pick ix vs) (pick ix us)
  | [] => .nil
  | i :: ix => by
    unfold pick
    cases e : vs[i]? with
    | none => rw [List.filterMap_cons, List.filterMap_cons, e, r.none_of e]; exact pick_vals r ix
    | some v =>
      obtain ⟨u, e1, e2⟩ := r.get e
      rw [List.filterMap_cons, List.filterMap_cons, e, e1]
      exact .cons e2 (pick_vals r ix)
theorem pick_rps {K : PySem.W.Frag} {ι : Ct} {H : Hp} {ds : List D} {vs : List V} (r : Rps K ι H ds vs) : ∀ ix : List Nat, Rps K ι H (pick ix ds) (pick ix vs)
  | [] => rfl
  | i :: ix => by
    unfold pick
    cases e : ds[i]? with
    | none =>
      have e2 : vs[i]? = none := by rw [List.getElem?_eq_none_iff, r.length]; exact List.getElem?_eq_none_iff.mp e
      rw [List.filterMap_cons, List.filterMap_cons, e, e2]
      exact pick_rps r ix
    | some v =>
      obtain ⟨u, e1, e2⟩ := r.get e
      rw [List.filterMap_cons, List.filterMap_cons, e, e1]
      exact ⟨u, _, rfl, e2, pick_rps r ix⟩
structure KwB (K : PySem.W.Frag) (fd : FuncData) (ps : List Str) (n : Nat) (ks : List Str) (ix : List Nat) : Prop where
  to : ∀ (s : Shared) (us ws : List Value), K.In s.heap → us.length = n → ws.length = ks.length → BindsTo s fd ⟨us, ks.zip ws⟩ (ps.zip (pick ix (us ++ ws)))
theorem KwB.kbn {K : PySem.W.Frag} {fd : FuncData} {ps : List Str} {n : Nat} {ks : List Str} {ix : List Nat} (h : KwB K fd ps n ks ix) : KBn K fd ps n ks (fun us ws => pick ix (us ++ ws)) (fun vs zs => pick ix (vs ++ zs)) :=
  ⟨h.to, fun r1 r2 => pick_vals (r1.append r2) ix⟩
theorem KwB.mk' {x qual : Str} {st : Stmt} {f : Addr} {fd : FuncData} {ps : List Str} {K : PySem.W.Frag} (F : Fun K x qual st f fd) (n : Nat) (ks : List Str) (ix : List Nat)
    (h : ∀ (kV doc pm : Value) (an : Option Addr) (cdv ct : Value) (us ws : List Value), us.length = n → ws.length = ks.length → bindArgs (PySem.W.fnOf x qual (defArgs st) (defBody st) (defScope st) .none kV doc pm an cdv ct) ⟨us, ks.zip ws⟩ = pure (ps.zip (pick ix (us ++ ws)))) : KwB K fd ps n ks ix := by
  obtain ⟨oc, od, kV, doc, pm, an, cdv, ct, osl, rfl, lk, hcd⟩ := F.ex
  exact ⟨fun s us ws _ l1 l2 => .of_eq (h kV doc pm an cdv ct us ws l1 l2)⟩
@[simp] def kwP (np n m : Nat) (ix : List Nat) (sem : List D → MS → Res D) (ds es : List D) (ms : MS) : Res D := if ds.length = n ∧ es.length = m ∧ (pick ix (ds ++ es)).length = np then noExc (sem (pick ix (ds ++ es)) ms) else .bad
@[simp] def kwE (fs fk : Env → MS → Res (List D)) (p : List D → List D → MS → Res D) (env : Env) (ms : MS) : Res D := (fs env ms).bind fun ds ms1 => (fk env ms1).bind fun es ms2 => p ds es ms2
section
variable {X : Cx} {E : EW} {k n np : Nat} {f : Addr} {fd : FuncData} {ps ks : List Str} {ix : List Nat} {x : Str} {p pos : Pos} {e : Expr} {es : List Expr} {kws : List Keyword} {fs fk : Env → MS → Res (List D)} {sem : List D → MS → Res D}
theorem kw_ok {K : PySem.W.Frag} {σ : St} {H : Hp} {Q : VK} {EX : XK} (h : tD K E (kwE fs fk (kwP np n ks.length ix sem)) σ H Q) : tCallN n ks.length (dSp K np sem) (fun vs zs => pick ix (vs ++ zs)) EX (tAr K E fs) (tAr K E fk) σ H Q := by
  obtain ⟨ι, env, ms, r, ev, o⟩ := h
  refine tR_seq r ev o fun ι1 H1 ms1 ds vs B1 o1 => ?_
  refine tR_seq B1.rel B1.env o1 fun ι2 H2 ms2 es zs B2 o2 => ?_
  unfold kwP at o2
  by_cases h : ds.length = n ∧ es.length = ks.length ∧ (pick ix (ds ++ es)).length = np
  · rw [if_pos h] at o2
    have r1 := Rps.mono B2.le _ _ B1.r
    exact ⟨r1.length.trans h.1, B2.r.length.trans h.2.1, ι2, ms2, _, B2.rel, pick_rps (r1.append B2.r) ix, h.2.2, out_noExc o2⟩
  · rw [if_neg h] at o2; exact o2.elim
theorem d_callK (G : FnOk X.prog X.w X.K X.mg X.base CX0 k f fd ps (dSp X.K np sem)) (hr : Room k X.A) (hg : Gl X x) (hm : X.mg x = some (.ref f)) (hk : PySem.W.keepIn X.K (.ref f) = true) (hb : KwB X.K fd ps n ks ix)
    (ha : DA X E (e :: es) fs) (hkw : DK X E kws fk) (hall : (backToKw pos (keywordEach kws X.env)).all (·.1.isSome) = true := by rfl) (hks : (backToKw pos (keywordEach kws X.env)).filterMap (·.1) = ks := by rfl)
    (hdb : (x == ("__debug__" : Str)) = false := by decide) (he : starEach (e :: es) X.env = (false, eval e X.env) :: starEach es X.env := by rfl)
    (hpl : ((backTo pos (starEach (e :: es) X.env)).any (·.1) || (backToKw pos (keywordEach kws X.env)).any (·.1.isNone)) = false := by rfl) : DE X E (.Call (.Name x p) (e :: es) kws pos) (kwE fs fk (kwP np n ks.length ix sem)) :=
  PE.conv (pe_callN G hr hg hm hk hb.kbn pass0 ha hkw hall hks hdb he hpl) fun _ _ _ h => kw_ok h
/-- f(k = v, ..) -/
theorem d_callK0 (G : FnOk X.prog X.w X.K X.mg X.base CX0 k f fd ps (dSp X.K np sem)) (hr : Room k X.A) (hg : Gl X x) (hm : X.mg x = some (.ref f)) (hk : PySem.W.keepIn X.K (.ref f) = true) (hb : KwB X.K fd ps 0 ks ix)
    (hkw : DK X E kws fk) (hall : (backToKw pos (keywordEach kws X.env)).all (·.1.isSome) = true := by rfl) (hks : (backToKw pos (keywordEach kws X.env)).filterMap (·.1) = ks := by rfl)
    (hdb : (x == ("__debug__" : Str)) = false := by decide)
    (hpl : ((backTo pos (starEach [] X.env)).any (·.1) || (backToKw pos (keywordEach kws X.env)).any (·.1.isNone)) = false := by rfl) : DE X E (.Call (.Name x p) [] kws pos) (kwE nilA fk (kwP np 0 ks.length ix sem)) := by
  refine ⟨fun pins s σ H Q I h => ?_⟩
  have h' : tCallN 0 ks.length (dSp X.K np sem) (fun vs zs => pick ix (vs ++ zs)) E0 (tAr X.K E nilA) (tAr X.K E fk) σ H Q := kw_ok h
  have h2 : tAr X.K E fk σ H fun zs H2 => zs.length = ks.length ∧ dSp X.K np sem (pick ix ([] ++ zs)) H2 Q E0 := by
    obtain ⟨ι, env, ms, r, ev, o⟩ := h
    have o' : Out X.K E (Rp X.K) ι H ((fk env ms).bind fun es ms2 => kwP np 0 ks.length ix sem [] es ms2) Q := o
    refine tR_seq r ev o' fun ι2 H2 ms2 es zs B2 o2 => ?_
    unfold kwP at o2
    by_cases h : ([] : List D).length = 0 ∧ es.length = ks.length ∧ (pick ix ([] ++ es)).length = np
    · rw [if_pos h] at o2
      exact ⟨B2.r.length.trans h.2.1, ι2, ms2, _, B2.rel, pick_rps B2.r ix, h.2.2, out_noExc o2⟩
    · rw [if_neg h] at o2; exact o2.elim
  refine wpAny_Call_Name_kw (ld_glob I hg hm ?_ hdb)
  refine PySem.W.callWith_KW0 (h₀ := X.base) I.ok.mod.kin hk hall (thn (hkw.run pos pins s σ H _ I h2) fun ws s2 ⟨zs, H2, I2, rz, l2, q2⟩ => ⟨I2.kIn, ?_⟩) hpl
  rw [hks]
  exact run_fnN (vs := []) G hr hb.kbn pass0 I2 .nil rz rfl l2 q2
end

/-! ### built-ins -/
/-- a built-in's answer by data -/
abbrev PC1 (K : PySem.W.Frag) (E : EW) (r : List V → Hp → VK → Prop) (p : List D → MS → Res D) : Prop :=
  ∀ (ι : Ct) (H : Hp) (ms : MS) (ds : List D) (vs : List V) (Q : VK), Rel K ι H ms → Rps K ι H ds vs → Out K E (Rp K) ι H (p ds ms) Q → r vs H Q
section
variable {X : Cx} {E : EW} {x : Str} {p pos : Pos} {e : Expr} {es : List Expr} {fs : Env → MS → Res (List D)} {id T : String} {r : List V → Hp → VK → Prop} {q : List D → MS → Res D}
theorem d_blt (hc : CallR X (.builtin id) r) (hp : PC1 X.K E r q) (hg : Gl X x) (hm : X.mg x = none) (hv : bootBuiltins x = some (.builtin id)) (ha : DA X E (e :: es) fs) (hn : x ≠ "__name__" := by decide) (hdb : (x == ("__debug__" : Str)) = false := by decide)
    (he : starEach (e :: es) X.env = (false, eval e X.env) :: starEach es X.env := by rfl) (hpl : (backTo pos (starEach es X.env)).any (·.1) = false := by rfl) : DE X E (.Call (.Name x p) (e :: es) [] pos) (appE fs q) :=
  PE.conv (pe_callB hc hg hm hv ha hn hdb he hpl) fun σ H Q ⟨ι, env, ms, r, ev, o⟩ => tR_seq r ev o fun ι1 H1 ms1 ds vs B o1 => hp ι1 H1 ms1 ds vs Q B.rel B.r o1
theorem d_bty (hc : CallR X (.type T) r) (hp : PC1 X.K E r q) (hg : Gl X x) (hm : X.mg x = none) (hv : bootBuiltins x = some (.type T)) (ha : DA X E (e :: es) fs) (hn : x ≠ "__name__" := by decide) (hdb : (x == ("__debug__" : Str)) = false := by decide)
    (he : starEach (e :: es) X.env = (false, eval e X.env) :: starEach es X.env := by rfl) (hpl : (backTo pos (starEach es X.env)).any (·.1) = false := by rfl) : DE X E (.Call (.Name x p) (e :: es) [] pos) (appE fs q) :=
  PE.conv (pe_callTy hc hg hm hv ha hn hdb he hpl) fun σ H Q ⟨ι, env, ms, r, ev, o⟩ => tR_seq r ev o fun ι1 H1 ms1 ds vs B o1 => hp ι1 H1 ms1 ds vs Q B.rel B.r o1
end
@[simp] def lenP (ds : List D) (ms : MS) : Res D := match ds with
  | [.str z] => if z.length ≤ LIM then .ok (.int z.length) ms else .bad
  | [d] => match seqOf ms d with
    | some xs => .ok (.int xs.length) ms
    | none => .bad
  | _ => .bad
@[simp] def absP (ds : List D) (ms : MS) : Res D := match ds with
  | [.int i] => .ok (.int (if i < 0 then -i else i)) ms
  | _ => .bad
@[simp] def intP (ds : List D) (ms : MS) : Res D := match ds with
  | [.int i] => .ok (.int i) ms
  | [.bl k] => .ok (.int (if k then 1 else 0)) ms
  | _ => .bad
@[simp] def max2P (ds : List D) (ms : MS) : Res D := match ds with
  | [.int i, .int j] => .ok (.int (if j > i then j else i)) ms
  | _ => .bad
def boolsOf : List D → Option (List Bool)
  | [] => some []
  | .bl b :: ds => (boolsOf ds).map (b :: ·)
  | _ => none
def intsOf : List D → Option (List Int)
  | [] => some []
  | .int b :: ds => (intsOf ds).map (b :: ·)
  | _ => none
def textsOf : List D → Option (List Str)
  | [] => some []
  | .str b :: ds => (textsOf ds).map (b :: ·)
  | _ => none
theorem boolsOf_eq : ∀ {ds : List D} {bs : List Bool}, boolsOf ds = some bs → ds = bs.map D.bl
  | [], _, h => by cases h; rfl
  | .bl b :: ds, _, h => by
    unfold boolsOf at h
    cases e : boolsOf ds with
    | none => rw [e] at h; cases h
    | some r => rw [e] at h; cases h; rw [boolsOf_eq e]; rfl
  | .non :: _, _, h => by cases h
  | .int _ :: _, _, h => by cases h
  | .str _ :: _, _, h => by cases h
  | .tup _ :: _, _, h => by cases h
  | .lst _ :: _, _, h => by cases h
  | .ro _ :: _, _, h => by cases h
  | .ptr _ :: _, _, h => by cases h
theorem intsOf_eq : ∀ {ds : List D} {bs : List Int}, intsOf ds = some bs → ds = bs.map D.int
  | [], _, h => by cases h; rfl
  | .int b :: ds, _, h => by
    unfold intsOf at h
    cases e : intsOf ds with
    | none => rw [e] at h; cases h
    | some r => rw [e] at h; cases h; rw [intsOf_eq e]; rfl
  | .non :: _, _, h => by cases h
  | .bl _ :: _, _, h => by cases h
  | .str _ :: _, _, h => by cases h
  | .tup _ :: _, _, h => by cases h
  | .lst _ :: _, _, h => by cases h
  | .ro _ :: _, _, h => by cases h
  | .ptr _ :: _, _, h => by cases h
theorem textsOf_eq : ∀ {ds : List D} {bs : List Str}, textsOf ds = some bs → ds = bs.map D.str
  | [], _, h => by cases h; rfl
  | .str b :: ds, _, h => by
    unfold textsOf at h
    cases e : textsOf ds with
    | none => rw [e] at h; cases h
    | some r => rw [e] at h; cases h; rw [textsOf_eq e]; rfl
  | .non :: _, _, h => by cases h
  | .bl _ :: _, _, h => by cases h
  | .int _ :: _, _, h => by cases h
  | .tup _ :: _, _, h => by cases h
  | .lst _ :: _, _, h => by cases h
  | .ro _ :: _, _, h => by cases h
  | .ptr _ :: _, _, h => by cases h
@[simp] theorem boolsOf_map (bs : List Bool) : boolsOf (bs.map D.bl) = some bs := by
  induction bs with
  | nil => rfl
  | cons b bs ih => show (boolsOf (bs.map D.bl)).map (b :: ·) = _; rw [ih]; rfl
@[simp] theorem intsOf_map (bs : List Int) : intsOf (bs.map D.int) = some bs := by
  induction bs with
  | nil => rfl
  | cons b bs ih => show (intsOf (bs.map D.int)).map (b :: ·) = _; rw [ih]; rfl
@[simp] theorem textsOf_map (bs : List Str) : textsOf (bs.map D.str) = some bs := by
  induction bs with
  | nil => rfl
  | cons b bs ih => show (textsOf (bs.map D.str)).map (b :: ·) = _; rw [ih]; rfl
/-- a built-in of one list -/
@[simp] def lst1 {α : Type} (rd : List D → Option α) (p : α → MS → Res D) (ds : List D) (ms : MS) : Res D := match ds with
  | [d] => match (rlOf ms d).bind rd with
    | some a => p a ms
    | none => .bad
  | _ => .bad
@[simp] def allP : List D → MS → Res D := lst1 boolsOf fun bs ms => .ok (.bl (bs.all id)) ms
@[simp] def anyP : List D → MS → Res D := lst1 boolsOf fun bs ms => .ok (.bl (bs.any id)) ms
@[simp] def sumP : List D → MS → Res D := lst1 intsOf fun ns ms => .ok (.int ns.sum) ms
section
variable {K : PySem.W.Frag} {E : EW}
theorem p_len : PC1 K E (fun xs H Q => (∃ p ys, xs = [.ref p] ∧ (SqL K H p ys ∨ SqT K H p ys) ∧ Q (.int ys.length) H) ∨ ∃ z, xs = [.str z] ∧ z.length ≤ sizeLine ∧ Q (.int z.length) H) lenP := by
  intro ι H ms ds vs Q R r o
  match ds, o with
  | [], o => exact o.elim
  | d :: _ :: _, o => cases d <;> exact o.elim
  | [d], o =>
    obtain ⟨v, rfl, rd⟩ := r.one
    by_cases hs : ∃ z, d = .str z
    · obtain ⟨z, rfl⟩ := hs
      have o' : Out K E (Rp K) ι H (if z.length ≤ LIM then .ok (.int z.length) ms else .bad) Q := o
      by_cases h : z.length ≤ LIM
      · rw [if_pos h] at o'
        cases rd
        exact .inr ⟨z, rfl, by rw [← lim_eq]; exact h, o' _ ι H R .refl rfl⟩
      · rw [if_neg h] at o'; exact o'.elim
    · have o' : Out K E (Rp K) ι H (match seqOf ms d with | some xs => .ok (.int xs.length) ms | none => .bad) Q := by
        cases d with
        | str z => exact (hs ⟨z, rfl⟩).elim
        | _ => exact o
      cases e : seqOf ms d with
      | none => rw [e] at o'; exact o'.elim
      | some xs =>
        rw [e] at o'
        obtain ⟨p, ys, rfl, rs, hq⟩ := R.seq e rd
        exact .inl ⟨p, ys, rfl, hq, o' _ ι H R .refl (by rw [rs.length]; rfl)⟩
theorem p_abs : PC1 K E (fun xs H Q => ∃ i, xs = [.int i] ∧ Q (.int (if i < 0 then -i else i)) H) absP := by
  intro ι H ms ds vs Q R r o
  match ds, r, o with
  | [.int i], r, o => obtain ⟨v, rfl, rd⟩ := r.one; cases rd; exact ⟨i, rfl, o _ ι H R .refl rfl⟩
  | [], r, o => exact o.elim
  | d :: _ :: _, r, o => cases d <;> exact o.elim
  | [.non], r, o => exact o.elim
  | [.bl _], r, o => exact o.elim
  | [.str _], r, o => exact o.elim
  | [.tup _], r, o => exact o.elim
  | [.lst _], r, o => exact o.elim
  | [.ro _], r, o => exact o.elim
  | [.ptr _], r, o => exact o.elim
theorem p_toInt : PC1 K E (fun xs H Q => (∃ i, xs = [.int i] ∧ Q (.int i) H) ∨ ∃ k, xs = [.bl k] ∧ Q (.int (if k then 1 else 0)) H) intP := by
  intro ι H ms ds vs Q R r o
  match ds, r, o with
  | [.int i], r, o => obtain ⟨v, rfl, rd⟩ := r.one; cases rd; exact .inl ⟨i, rfl, o _ ι H R .refl rfl⟩
  | [.bl i], r, o => obtain ⟨v, rfl, rd⟩ := r.one; cases rd; exact .inr ⟨i, rfl, o _ ι H R .refl rfl⟩
  | [], r, o => exact o.elim
  | d :: _ :: _, r, o => cases d <;> exact o.elim
  | [.non], r, o => exact o.elim
  | [.str _], r, o => exact o.elim
  | [.tup _], r, o => exact o.elim
  | [.lst _], r, o => exact o.elim
  | [.ro _], r, o => exact o.elim
  | [.ptr _], r, o => exact o.elim
theorem p_max2 : PC1 K E (fun xs H Q => ∃ i j, xs = [.int i, .int j] ∧ Q (.int (if j > i then j else i)) H) max2P := by
  intro ι H ms ds vs Q R r o
  by_cases h : ∃ i j, ds = [.int i, .int j]
  · obtain ⟨i, j, rfl⟩ := h
    obtain ⟨v, _, rfl, rd, r2⟩ := r
    obtain ⟨v2, rfl, rd2⟩ := r2.one
    cases rd
    cases rd2
    exact ⟨i, j, rfl, o _ ι H R .refl rfl⟩
  · unfold max2P at o
    split at o
    · rename_i i j
      exact (h ⟨i, j, rfl⟩).elim
    · exact o.elim
theorem lst1_ok {α : Type} {rd : List D → Option α} {p : α → MS → Res D} {ι : Ct} {H : Hp} {ms : MS} {ds : List D} {vs : List V} {Q : VK} (R : Rel K ι H ms) (r : Rps K ι H ds vs) (o : Out K E (Rp K) ι H (lst1 rd p ds ms) Q) :
    ∃ (a : Addr) (xs : List V) (es : List D) (z : α), vs = [.ref a] ∧ SqL K H a xs ∧ Rps K ι H es xs ∧ rd es = some z ∧ Out K E (Rp K) ι H (p z ms) Q := by
  unfold lst1 at o
  split at o
  · rename_i d
    obtain ⟨v, rfl, rv⟩ := r.one
    cases e : rlOf ms d with
    | none => rw [e] at o; exact o.elim
    | some es =>
      cases e2 : rd es with
      | none =>
        have : (rlOf ms d).bind rd = none := by rw [e]; exact e2
        rw [this] at o
        exact o.elim
      | some z =>
        have : (rlOf ms d).bind rd = some z := by rw [e]; exact e2
        rw [this] at o
        obtain ⟨a, xs, rfl, rs, hq⟩ := R.rl e rv
        exact ⟨a, xs, es, z, rfl, hq, rs, e2, o⟩
  · exact o.elim
theorem p_all : PC1 K E (rAll K) allP := fun ι H ms ds vs Q R r o => by
  obtain ⟨a, xs, es, bs, rfl, hq, rs, e, o'⟩ := lst1_ok R r o
  rw [boolsOf_eq e] at rs
  rw [rs.bls] at hq
  exact ⟨a, bs, rfl, hq, o' _ ι H R .refl rfl⟩
theorem p_any : PC1 K E (rAny K) anyP := fun ι H ms ds vs Q R r o => by
  obtain ⟨a, xs, es, bs, rfl, hq, rs, e, o'⟩ := lst1_ok R r o
  rw [boolsOf_eq e] at rs
  rw [rs.bls] at hq
  exact ⟨a, bs, rfl, hq, o' _ ι H R .refl rfl⟩
theorem p_sum : PC1 K E (rSum K) sumP := fun ι H ms ds vs Q R r o => by
  obtain ⟨a, xs, es, bs, rfl, hq, rs, e, o'⟩ := lst1_ok R r o
  rw [intsOf_eq e] at rs
  rw [rs.ints] at hq
  exact ⟨a, bs, rfl, hq, o' _ ι H R .refl rfl⟩
end

/-! ### isinstance -/
inductive Ty where
  | str | tuple | bool | int | list
def Ty.nm : Ty → String
  | .str => "str"
  | .tuple => "tuple"
  | .bool => "bool"
  | .int => "int"
  | .list => "list"
@[simp] def isTy (ms : MS) (d : D) (t : Ty) : Option Bool := match d with
  | .non => some false
  | .bl _ => some (match t with | .bool => true | .int => true | _ => false)
  | .int _ => some (match t with | .int => true | _ => false)
  | .str _ => some (match t with | .str => true | _ => false)
  | .tup _ => some (match t with | .tuple => true | _ => false)
  | .lst _ => some (match t with | .list => true | _ => false)
  | .ro _ => some (match t with | .list => true | _ => false)
  | .ptr n => match ms[n]? with
    | some (.lst _) => some (match t with | .list => true | _ => false)
    | _ => none
@[simp] def isP (t : Ty) (d : D) (ms : MS) : Res D := match isTy ms d t with
  | some b => .ok (.bl b) ms
  | none => .bad
section
variable {K : PySem.W.Frag} {ι : Ct} {H : Hp} {ms : MS} {E : EW}
theorem tyx_of (R : Rel K ι H ms) {d : D} {v : V} (t : Ty) {b : Bool} (e : isTy ms d t = some b) (r : Rp K ι H d v) : ∃ a : String, TyX K H v (.type a) ∧ kitB a t.nm = some b := by
  have lst : ∀ (p : Addr) (xs : List V), SqL K H p xs → TyX K H (.ref p) (.type "list") := fun p xs hq => by
    rcases hq with (hq | ⟨o, hq⟩) | ⟨o, its, n, hk, hc, _⟩
    · exact .base (.lst hq)
    · exact .base (.frz hq)
    · exact .kList hk hc
  cases d with
  | non => cases r; cases e; exact ⟨"NoneType", .base .non, by cases t <;> decide +kernel⟩
  | bl k => cases r; cases e; exact ⟨"bool", .base (.bl k), by cases t <;> decide +kernel⟩
  | int k => cases r; cases e; exact ⟨"int", .base (.int k), by cases t <;> decide +kernel⟩
  | str k => cases r; cases e; exact ⟨"str", .base (.str k), by cases t <;> decide +kernel⟩
  | tup ds =>
    obtain ⟨p, xs, rfl, hq, _⟩ := r
    cases e
    refine ⟨"tuple", ?_, by cases t <;> decide +kernel⟩
    rcases hq with (hq | ⟨o, hq⟩) | ⟨o, its, n, hk, hc, _⟩
    · exact .base (.tup hq)
    · exact .fTuple hq
    · exact .kTuple hk hc
  | lst ds => obtain ⟨p, xs, rfl, rs, hq⟩ := R.rl (d := .lst ds) rfl r; cases e; exact ⟨"list", lst p xs hq, by cases t <;> decide +kernel⟩
  | ro ds => obtain ⟨p, xs, rfl, rs, hq⟩ := R.rl (d := .ro ds) rfl r; cases e; exact ⟨"list", lst p xs hq, by cases t <;> decide +kernel⟩
  | ptr n =>
    unfold isTy at e
    cases q : ms[n]? with
    | none => simp only [q] at e; cases e
    | some c =>
      cases c with
      | lst ds =>
        simp only [q] at e
        obtain ⟨p, xs, rfl, rs, hq⟩ := R.rl (d := .ptr n) (ds := ds) (by unfold rlOf; simp only [q]) r
        cases e
        exact ⟨"list", lst p xs hq, by cases t <;> decide +kernel⟩
      | _ => simp only [q] at e; cases e
variable {X : Cx} {a : Expr} {f : Env → MS → Res D} {p p2 pos : Pos}
theorem boot_isi : bootBuiltins "isinstance" = some (.builtin "isinstance") := by decide +kernel
/-- isinstance(x, T) -/
theorem d_is (t : Ty) {T : Expr} (hg : Gl X "isinstance") (hm : X.mg "isinstance" = none) (hT : PE X T (tC (.ty t.nm))) (ha : DE X E a f)
    (he : starEach [a, T] X.env = (false, eval a X.env) :: starEach [T] X.env := by rfl) (he2 : starEach [T] X.env = (false, eval T X.env) :: starEach [] X.env := by rfl) (hpl : (backTo pos (starEach [T] X.env)).any (·.1) = false := by rfl) :
    DE X E (.Call (.Name "isinstance" p) [a, T] [] pos) (unE f (isP t)) :=
  PE.conv (pe_callB call_isi hg hm boot_isi (pa_cons ha (pa_cons hT pa_nil he2) he) (by decide) (by decide) he hpl) fun σ H Q ⟨ι, env, ms, r, ev, o⟩ => tR_seq r ev o fun ι1 H1 ms1 d x B o1 => by
    unfold isP at o1
    cases q : isTy ms1 d t with
    | none => rw [q] at o1; exact o1.elim
    | some b =>
      rw [q] at o1
      obtain ⟨n, h1, h2⟩ := tyx_of B.rel t q B.r
      exact ⟨x, .ty t.nm, .type n, .type t.nm, b, rfl, .ty _, h1, kit_ty h2, o1 _ ι1 H1 B.rel .refl rfl⟩
end

/-! ### methods -/
@[simp] def cellL (ms : MS) (o : D) : Option (Nat × List D) := match o with
  | .ptr n => match ms[n]? with
    | some (.lst ds) => some (n, ds)
    | _ => none
  | _ => none
theorem cellL_eq {ms : MS} {o : D} {n : Nat} {ds : List D} (h : cellL ms o = some (n, ds)) : o = .ptr n ∧ ms[n]? = some (.lst ds) := by
  cases o with
  | ptr m =>
    unfold cellL at h
    cases q : ms[m]? with
    | none => simp only [q] at h; cases h
    | some c =>
      cases c with
      | lst es => simp only [q] at h; cases h; exact ⟨rfl, q⟩
      | _ => simp only [q] at h; cases h
  | _ => cases h
/-- xs.append(e) of a list that may change -/
@[simp] def appM (fo fe : Env → MS → Res D) (env : Env) (ms : MS) : Res D := (fo env ms).bind fun o ms1 => match cellL ms1 o with
  | none => .bad
  | some _ => (fe env ms1).bind fun d ms2 => match cellL ms2 o with
    | some (n, ds) => if ds.length < LIM then .ok .non (ms2.set n (.lst (ds ++ [d]))) else .bad
    | none => .bad
@[simp] def popM (fo : Env → MS → Res D) (env : Env) (ms : MS) : Res D := (fo env ms).bind fun o ms1 => match cellL ms1 o with
  | some (n, ds) => match ds[ds.length - 1]? with
    | some d => .ok d (ms1.set n (.lst ds.dropLast))
    | none => .bad
  | none => .bad
/-- xs.extend(ys), ys a list -/
@[simp] def extM (fo fe : Env → MS → Res D) (env : Env) (ms : MS) : Res D := (fo env ms).bind fun o ms1 => match cellL ms1 o with
  | none => .bad
  | some _ => (fe env ms1).bind fun d ms2 => match cellL ms2 o with
    | some (n, ds) => match lstOf ms2 d with
      | some es => if ds.length + es.length ≤ LIM then .ok .non (ms2.set n (.lst (ds ++ es))) else .bad
      | none => .bad
    | none => .bad
@[simp] def bitsP (d : D) (ms : MS) : Res D := match d with
  | .int i => .ok (.int (Builtin.Int.intBits i : Nat)) ms
  | _ => .bad
@[simp] def joinE (fo fe : Env → MS → Res D) (env : Env) (ms : MS) : Res D := (fo env ms).bind fun s ms1 => match s with
  | .str z => (fe env ms1).bind fun d ms2 => match (seqOf ms2 d).bind textsOf with
    | some ys => if (ys.map (·.length)).sum + ys.length * z.length ≤ LIM then .ok (.str (Txt.join z ys)) ms2 else .bad
    | none => .bad
  | _ => .bad
@[simp] def upE (fo : Env → MS → Res D) (env : Env) (ms : MS) : Res D := (fo env ms).bind fun s ms1 => match s with
  | .str z => if z.length ≤ 5592405 then .ok (.str (Txt.upper z)) ms1 else .bad
  | _ => .bad
section
variable {X : Cx} {E : EW} {o e : Expr} {fo fe : Env → MS → Res D} {apos pos : Pos}
theorem Rel.cellL {K : PySem.W.Frag} {ι : Ct} {H : Hp} {ms : MS} (R : Rel K ι H ms) {d : D} {v : V} {n : Nat} {ds : List D} (e : cellL ms d = some (n, ds)) (r : Rp K ι H d v) : ∃ p xs, v = .ref p ∧ ι.a[n]? = some p ∧ H p = some (.lst xs) ∧ Rps K ι H ds xs := by
  obtain ⟨rfl, q⟩ := cellL_eq e
  obtain ⟨p, rfl, hn⟩ := r
  obtain ⟨xs, h1, h2⟩ := R.ok n p _ hn q
  exact ⟨p, xs, rfl, hn, h1, h2⟩
theorem seq_tyL {K : PySem.W.Frag} {H : Hp} {p : Addr} {xs : List V} (h : H p = some (.lst xs)) : tyV K "list" (.ref p) H := Or.inl ⟨rfl, xs, SqL.of h⟩
theorem d_append (ho : DE X E o fo) (he : DE X E e fe) (hbase : attributeBase o "append" X.env (eval o X.env) = eval o X.env := by rfl)
    (hfew : (((backTo pos (starEach [e] X.env)).all fun x => !x.1) && (backToKw pos (keywordEach [] X.env)).all (·.1.isSome) && decide ([e].length + ([] : List Keyword).length + (if ([] : List Keyword).isEmpty then 0 else 1) < 30)) = true := by rfl)
    (hline : (apos.endLine == pos.line) = true := by rfl) (hs : starEach [e] X.env = (false, eval e X.env) :: starEach [] X.env := by rfl) (hplain : (backTo pos (starEach [] X.env)).any (·.1) = false := by rfl) :
    DE X E (.Call (.Attribute o "append" apos) [e] [] pos) (appM fo fe) :=
  PE.conv (pe_bm PySem.F.plainAttrs_list PySem.F.slot_list_append PySem.F.type_list_append mt_append ho (a_cons he a_nil hs) (hbase := hbase) (hfew := hfew) (hline := hline) (hs := hs) (hplain := hplain)) fun σ H Q ⟨ι, env, ms, r, ev, o⟩ => by
    refine tR_seq r ev o fun ι1 H1 ms1 d x B o1 => ?_
    cases q1 : cellL ms1 d with
    | none => simp only [q1] at o1; exact o1.elim
    | some z =>
      obtain ⟨n, ds⟩ := z
      simp only [q1] at o1
      obtain ⟨p, xs, rfl, hn, h1, h2⟩ := B.rel.cellL q1 B.r
      refine ⟨seq_tyL h1, ι1, env, ms1, B.rel, B.env, ?_⟩
      unfold consA
      cases q2 : fe env ms1 with
      | bad => simp only [q2] at o1; exact o1
      | exc y ms2 => simp only [q2] at o1; exact o1
      | ok y ms2 =>
        simp only [q2, bind_ok] at o1
        simp only [bind_ok, nilA]
        intro vs ι2 H2 R2 l2 rv
        obtain ⟨v, rfl, ry⟩ := rv.one
        cases q3 : cellL ms2 d with
        | none => simp only [q3] at o1; exact o1.elim
        | some z =>
          obtain ⟨m, es⟩ := z
          simp only [q3] at o1
          obtain ⟨p', ys, e1, hm, h3, h4⟩ := R2.cellL q3 (Rp.mono l2 _ _ B.r)
          cases e1
          by_cases hl : es.length < LIM
          · simp only [if_pos hl] at o1
            have w := Le.write (o := .lst (ys ++ [v])) R2 hm
            refine ⟨p, ys, v, rfl, rfl, h3, by rw [h4.length, ← lim_eq]; exact hl, ?_⟩
            exact o1 _ ι2 _ (R2.write hm ⟨_, upd_same, Rps.mono w _ _ (h4.append (Rps.mk1 ry))⟩) (l2.trans w) rfl
          · simp only [if_neg hl] at o1; exact o1.elim
theorem d_extend (ho : DE X E o fo) (he : DE X E e fe) (hbase : attributeBase o "extend" X.env (eval o X.env) = eval o X.env := by rfl)
    (hfew : (((backTo pos (starEach [e] X.env)).all fun x => !x.1) && (backToKw pos (keywordEach [] X.env)).all (·.1.isSome) && decide ([e].length + ([] : List Keyword).length + (if ([] : List Keyword).isEmpty then 0 else 1) < 30)) = true := by rfl)
    (hline : (apos.endLine == pos.line) = true := by rfl) (hs : starEach [e] X.env = (false, eval e X.env) :: starEach [] X.env := by rfl) (hplain : (backTo pos (starEach [] X.env)).any (·.1) = false := by rfl) :
    DE X E (.Call (.Attribute o "extend" apos) [e] [] pos) (extM fo fe) :=
  PE.conv (pe_bm PySem.F.plainAttrs_list PySem.F.slot_list_extend PySem.F.type_list_extend mt_extend ho (a_cons he a_nil hs) (hbase := hbase) (hfew := hfew) (hline := hline) (hs := hs) (hplain := hplain)) fun σ H Q ⟨ι, env, ms, r, ev, o⟩ => by
    refine tR_seq r ev o fun ι1 H1 ms1 d x B o1 => ?_
    cases q1 : cellL ms1 d with
    | none => simp only [q1] at o1; exact o1.elim
    | some z =>
      obtain ⟨n, ds⟩ := z
      simp only [q1] at o1
      obtain ⟨p, xs, rfl, hn, h1, h2⟩ := B.rel.cellL q1 B.r
      refine ⟨seq_tyL h1, ι1, env, ms1, B.rel, B.env, ?_⟩
      unfold consA
      cases q2 : fe env ms1 with
      | bad => simp only [q2] at o1; exact o1
      | exc y ms2 => simp only [q2] at o1; exact o1
      | ok y ms2 =>
        simp only [q2, bind_ok] at o1
        simp only [bind_ok, nilA]
        intro vs ι2 H2 R2 l2 rv
        obtain ⟨v, rfl, ry⟩ := rv.one
        cases q3 : cellL ms2 d with
        | none => simp only [q3] at o1; exact o1.elim
        | some z =>
          obtain ⟨m, es⟩ := z
          simp only [q3] at o1
          obtain ⟨p', ys, e1, hm, h3, h4⟩ := R2.cellL q3 (Rp.mono l2 _ _ B.r)
          cases e1
          cases q4 : lstOf ms2 y with
          | none => simp only [q4] at o1; exact o1.elim
          | some zs =>
            simp only [q4] at o1
            obtain ⟨b, us, rfl, r5, h5⟩ := R2.lst q4 ry
            by_cases hl : es.length + zs.length ≤ LIM
            · simp only [if_pos hl] at o1
              have w := Le.write (o := .lst (ys ++ us)) R2 hm
              refine ⟨p, b, ys, us, rfl, rfl, h3, h5, by rw [h4.length, r5.length, ← lim_eq]; exact hl, ?_⟩
              exact o1 _ ι2 _ (R2.write hm ⟨_, upd_same, Rps.mono w _ _ (h4.append r5)⟩) (l2.trans w) rfl
            · simp only [if_neg hl] at o1; exact o1.elim
theorem d_pop (ho : DE X E o fo) (hbase : attributeBase o "pop" X.env (eval o X.env) = eval o X.env := by rfl)
    (hline : (apos.endLine == pos.line) = true := by rfl) : DE X E (.Call (.Attribute o "pop" apos) [] [] pos) (popM fo) :=
  PE.conv (pe_bm0 PySem.F.plainAttrs_list PySem.F.slot_list_pop PySem.F.type_list_pop mt_pop ho (hbase := hbase) (hline := hline)) fun σ H Q ⟨ι, env, ms, r, ev, o⟩ => by
    refine tR_seq r ev o fun ι1 H1 ms1 d x B o1 => ?_
    cases q1 : cellL ms1 d with
    | none => simp only [q1] at o1; exact o1.elim
    | some z =>
      obtain ⟨n, ds⟩ := z
      simp only [q1] at o1
      obtain ⟨p, xs, rfl, hn, h1, h2⟩ := B.rel.cellL q1 B.r
      refine ⟨seq_tyL h1, ?_⟩
      cases q2 : ds[ds.length - 1]? with
      | none => simp only [q2] at o1; exact o1.elim
      | some y =>
        simp only [q2] at o1
        obtain ⟨v, e1, rv⟩ := h2.get q2
        have w := Le.write (o := .lst xs.dropLast) B.rel hn
        refine ⟨p, xs, v, rfl, rfl, h1, by rw [h2.length]; exact e1, ?_⟩
        exact o1 _ ι1 _ (B.rel.write hn ⟨_, upd_same, Rps.mono w _ _ h2.dropLast⟩) w (Rp.mono w _ _ rv)
theorem d_bits (ho : DE X E o fo) (hbase : attributeBase o "bit_length" X.env (eval o X.env) = eval o X.env := by rfl) (hline : (apos.endLine == pos.line) = true := by rfl) : DE X E (.Call (.Attribute o "bit_length" apos) [] [] pos) (unE fo bitsP) :=
  PE.conv (pe_bits ho hbase hline) fun σ H Q ⟨ι, env, ms, r, ev, o⟩ => tR_seq r ev o fun ι1 H1 ms1 d x B o1 => by
    cases d with
    | int i => exact ⟨i, B.r, o1 _ ι1 H1 B.rel .refl rfl⟩
    | _ => exact o1.elim
theorem d_join (ho : DE X E o fo) (he : DE X E e fe) (hs : starEach [e] X.env = [(false, eval e X.env)] := by rfl) (hbase : attributeBase o "join" X.env (eval o X.env) = eval o X.env := by rfl) (hline : (apos.endLine == pos.line) = true := by rfl) :
    DE X E (.Call (.Attribute o "join" apos) [e] [] pos) (joinE fo fe) :=
  PE.conv (pe_join ho he hs hbase hline) fun σ H Q ⟨ι, env, ms, r, ev, o⟩ => tR_seq r ev o fun ι1 H1 ms1 d x B o1 => by
    cases d with
    | str z =>
      refine ⟨⟨z, B.r⟩, ?_⟩
      refine tR_seq B.rel B.env o1 fun ι2 H2 ms2 y v B2 o2 => ?_
      cases q : seqOf ms2 y with
      | none => simp only [q] at o2; exact o2.elim
      | some es =>
        cases q2 : textsOf es with
        | none =>
          have : (seqOf ms2 y).bind textsOf = none := by rw [q]; exact q2
          simp only [this] at o2; exact o2.elim
        | some ys =>
          have : (seqOf ms2 y).bind textsOf = some ys := by rw [q]; exact q2
          simp only [this] at o2
          by_cases hl : (ys.map (·.length)).sum + ys.length * z.length ≤ LIM
          · simp only [if_pos hl] at o2
            obtain ⟨p, xs, rfl, rs, hq⟩ := B2.rel.seq q B2.r
            rw [textsOf_eq q2] at rs
            rw [rs.strs] at hq
            exact ⟨z, p, ys, B.r, rfl, hq, hl, o2 _ ι2 H2 B2.rel .refl rfl⟩
          · simp only [if_neg hl] at o2; exact o2.elim
    | _ => exact o1.elim
theorem d_upper (ho : DE X E o fo) (hbase : attributeBase o "upper" X.env (eval o X.env) = eval o X.env := by rfl) (hline : (apos.endLine == pos.line) = true := by rfl) :
    DE X E (.Call (.Attribute o "upper" apos) [] [] pos) (upE fo) :=
  PE.conv (pe_upper ho hbase hline) fun σ H Q ⟨ι, env, ms, r, ev, o⟩ => tR_seq r ev o fun ι1 H1 ms1 d x B o1 => by
    cases d with
    | str z =>
      by_cases hl : z.length ≤ 5592405
      · simp only [if_pos hl] at o1
        exact ⟨⟨z, B.r⟩, z, B.r, rfl, hl, o1 _ ι1 H1 B.rel .refl rfl⟩
      · simp only [if_neg hl] at o1; exact o1.elim
    | _ => exact o1.elim
end
end DL

set_option maxHeartbeats 1000000
namespace DL
open PySem PySem.Spec L2
open PyProof.Rows hiding St

/-! ### truth -/
@[simp] def tru (ms : MS) (d : D) : Option Bool := match d with
  | .non => some false
  | .bl b => some b
  | .int i => some (i != 0)
  | .str y => if y.length ≤ LIM then some ((y.length : Int) != 0) else none
  | d => (seqOf ms d).map fun xs => !xs.isEmpty
@[simp] def truT (f : Env → MS → Res D) (env : Env) (ms : MS) : Res Bool := (f env ms).bind fun d ms1 => match tru ms1 d with
  | some b => .ok b ms1
  | none => .bad
@[simp] def truE (f : Env → MS → Res D) (env : Env) (ms : MS) : Res D := (f env ms).bind fun d ms1 => match tru ms1 d with
  | some b => .ok (.bl (!b)) ms1
  | none => .bad
/-! and, or by truth, as values -/
@[simp] def andV (f g : Env → MS → Res D) (env : Env) (ms : MS) : Res D := (f env ms).bind fun d ms1 => match tru ms1 d with
  | some b => if b = true then g env ms1 else .ok d ms1
  | none => .bad
@[simp] def orV (f g : Env → MS → Res D) (env : Env) (ms : MS) : Res D := (f env ms).bind fun d ms1 => match tru ms1 d with
  | some b => if b = true then .ok d ms1 else g env ms1
  | none => .bad
section
variable {K : PySem.W.Frag} {ι : Ct} {H : Hp} {ms : MS} {E : EW}
theorem Rel.tru (R : Rel K ι H ms) {d : D} {v : V} {b : Bool} (e : tru ms d = some b) (r : Rp K ι H d v) : TruV K v H b := by
  have sq : ∀ es, seqOf ms d = some es → (some (!es.isEmpty) = some b) → TruV K v H b := fun es q e => by
    obtain ⟨p, xs, rfl, rs, hq⟩ := R.seq q r
    cases e
    have em : es.isEmpty = xs.isEmpty := by
      have := rs.length
      cases es <;> cases xs <;> first | rfl | (simp at this)
    rcases hq with hq | hq
    · exact .inl ⟨xs, hq, by rw [em]⟩
    · exact .inr (.inl ⟨xs, hq, by rw [em]⟩)
  have gen : (seqOf ms d).map (fun xs => !xs.isEmpty) = some b → TruV K v H b := fun e => by
    cases q : seqOf ms d with
    | none => rw [q] at e; cases e
    | some es => rw [q] at e; exact sq es q e
  cases d with
  | non => cases e; cases r; exact rfl
  | bl k => cases e; cases r; exact rfl
  | int i => cases e; cases r; exact rfl
  | str y =>
    cases r
    unfold DL.tru at e
    by_cases h : y.length ≤ LIM
    · simp only [if_pos h] at e
      cases e
      exact ⟨by rw [← lim_eq]; exact h, rfl⟩
    · simp only [if_neg h] at e; cases e
  | tup _ => exact gen e
  | lst _ => exact gen e
  | ro _ => exact gen e
  | ptr _ => exact gen e
variable {X : Cx} {a b : Expr} {rest : List Expr} {f g : Env → MS → Res D} {pos : Pos}
theorem t_tru (ha : DE X E a f) (he : ∀ whole, isTrue a X.env whole = (do let v ← whole; standAt a.pos; holding [v] (truthy v)) := by intro _; rfl) : DT X E a (truT f) :=
  PT.conv (pt_truth ha he) fun σ H Q ⟨ι, env, ms, r, ev, o⟩ => tR_seq r ev o fun ι1 H1 ms1 d x B o1 => by
    cases q : tru ms1 d with
    | none => simp only [q] at o1; exact o1.elim
    | some k => simp only [q] at o1; exact ⟨k, B.rel.tru q B.r, o1 _ ι1 H1 B.rel .refl rfl⟩
theorem d_notV (ha : DE X E a f) : DE X E (.UnaryOp .Not a pos) (truE f) :=
  PE.conv (pe_notT ha) fun σ H Q ⟨ι, env, ms, r, ev, o⟩ => tR_seq r ev o fun ι1 H1 ms1 d x B o1 => by
    cases q : tru ms1 d with
    | none => simp only [q] at o1; exact o1.elim
    | some k => simp only [q] at o1; exact ⟨k, B.rel.tru q B.r, o1 _ ι1 H1 B.rel .refl rfl⟩
theorem d_andV (ha : DE X E a f) (hb : DE X E (.BoolOp .And (b :: rest) pos) g) : DE X E (.BoolOp .And (a :: b :: rest) pos) (andV f g) :=
  PE.conv (pe_andT ha hb) fun σ H Q ⟨ι, env, ms, r, ev, o⟩ => tR_seq r ev o fun ι1 H1 ms1 d x B o1 => by
    cases q : tru ms1 d with
    | none => simp only [q] at o1; exact o1.elim
    | some k =>
      simp only [q] at o1
      refine ⟨k, B.rel.tru q B.r, ?_⟩
      cases k with
      | true => exact ⟨ι1, env, ms1, B.rel, B.env, o1⟩
      | false => exact o1 _ ι1 H1 B.rel .refl B.r
theorem d_orV (ha : DE X E a f) (hb : DE X E (.BoolOp .Or (b :: rest) pos) g) : DE X E (.BoolOp .Or (a :: b :: rest) pos) (orV f g) :=
  PE.conv (pe_orT ha hb) fun σ H Q ⟨ι, env, ms, r, ev, o⟩ => tR_seq r ev o fun ι1 H1 ms1 d x B o1 => by
    cases q : tru ms1 d with
    | none => simp only [q] at o1; exact o1.elim
    | some k =>
      simp only [q] at o1
      refine ⟨k, B.rel.tru q B.r, ?_⟩
      cases k with
      | true => exact o1 _ ι1 H1 B.rel .refl B.r
      | false => exact ⟨ι1, env, ms1, B.rel, B.env, o1⟩

/-! ### a < b < c -/
@[simp] def chE (f g h : Env → MS → Res D) (p q : D → D → MS → Res D) (env : Env) (ms : MS) : Res D := (f env ms).bind fun a ms1 => (g env ms1).bind fun b ms2 => (p a b ms2).bind fun z ms3 => match z with
  | .bl k => if k = true then (h env ms3).bind fun c ms4 => q b c ms4 else .ok (.bl false) ms3
  | _ => .bad
theorem chain_read {r r' : R2} {p q : D → D → MS → Res D} {h : Env → MS → Res D} (hp : ∀ E, P2 K E r p) (hq : P2 K E r' q) {σ : St} {Q : VK} (o : tD K E (chE f g h p q) σ H Q) : tChain r r' (tD K E f) (tD K E g) (tD K E h) σ H Q := by
  obtain ⟨ι, env, ms, r0, ev, o⟩ := o
  refine tR_seq r0 ev o fun ι1 H1 ms1 a x B1 o1 => ?_
  refine tR_seq B1.rel B1.env o1 fun ι2 H2 ms2 b y B2 o2 => ?_
  refine hp E ι2 H2 ms2 a b x y _ B2.rel (Rp.mono B2.le _ _ B1.r) B2.r ?_
  cases e : p a b ms2 with
  | bad => rw [e] at o2; exact o2
  | exc z ms3 => rw [e] at o2; exact o2
  | ok z ms3 =>
    rw [e] at o2
    intro v ι3 H3 R3 l3 rz
    have o3 := Out.from l3 o2
    cases z with
    | bl k =>
      refine ⟨k, rz, ?_⟩
      have ev3 := B2.env.mono l3
      cases k with
      | false => exact o3 _ ι3 H3 R3 .refl rfl
      | true =>
        refine tR_seq (ι := ι3) R3 ev3 o3 fun ι4 H4 ms4 c w B4 o4 => ?_
        exact hq ι4 H4 ms4 b c y w Q B4.rel (Rp.mono (l3.trans B4.le) _ _ B2.r) B4.r o4
    | _ => exact o3.elim
theorem d_chain {op op' : CmpOp} {c : Expr} {h : Env → MS → Res D} {r r' : R2} {p q : D → D → MS → Res D} (ho : OpR X (compareOp op) r) (ho' : OpR X (compareOp op') r') (hp : ∀ E, P2 X.K E r p) (hq : P2 X.K E r' q) (ha : DE X E a f) (hb : DE X E b g) (hc : DE X E c h)
    (hm : lastMarks [op, op'] [b, c] = false := by with_unfolding_all rfl) : DE X E (.Compare a [op, op'] [b, c] pos) (chE f g h p q) := PE.conv (pe_chain ho ho' ha hb hc hm) fun _ _ _ o => chain_read hp hq o
theorem t_chain {op op' : CmpOp} {c : Expr} {h : Env → MS → Res D} {r r' : R2} {p q : D → D → MS → Res D} (ho : OpR X (compareOp op) r) (ho' : OpR X (compareOp op') r') (hp : ∀ E, P2 X.K E r p) (hq : P2 X.K E r' q) (ha : DE X E a f) (hb : DE X E b g) (hc : DE X E c h)
    (hm : lastMarks [op, op'] [b, c] = false := by with_unfolding_all rfl) : DT X E (.Compare a [op, op'] [b, c] pos) (valT (chE f g h p q)) := PT.conv (pt_chain ho ho' ha hb hc hm) fun _ _ _ o => chain_read hp hq (val_test o)

/-! ### t[::-1] of a text -/
def revS (z : Str) : Str := ⟨z.cps.toList.reverse.toArray⟩
@[simp] def revE (f : Env → MS → Res D) (env : Env) (ms : MS) : Res D := (f env ms).bind fun d ms1 => match d with
  | .str z => if z.length ≤ LIM then .ok (.str (revS z)) ms1 else .bad
  | _ => .bad
theorem rev_text (z : Str) (u : Tok) : Txt.sliceBy z none none (-1, u) = revS z := by
  have e : (Txt.sliceBy z none none (-1, u)).cps.toList = z.cps.toList.reverse := by
    rw [step_rev_list]
    apply List.ext_getElem?
    intro i
    by_cases hi : i < z.cps.toList.length
    · have hz : z.length = z.cps.toList.length := by simp [Str.length]
      rw [List.getElem?_map, List.getElem?_range (by rw [hz]; exact hi), List.getElem?_reverse hi, hz]
      have : z.cps.size - 1 - i < z.cps.size := by simp at hi ⊢; omega
      simp [Array.getD, this]
    · rw [List.getElem?_eq_none (by simp [Str.length] at hi ⊢; omega), List.getElem?_eq_none (by simp at hi ⊢; omega)]
  have e2 : (Txt.sliceBy z none none (-1, u)).cps = (revS z).cps := by
    apply Array.toList_inj.mp
    rw [e]
    simp [revS]
  cases h : Txt.sliceBy z none none (-1, u) with
  | mk c => rw [h] at e2; simp only at e2; rw [e2]
theorem pe_revS {k : Nat} {p1 p2 p3 : Pos} {ta : TE} (ha : PE X a ta) : PE X (.Subscript a (.Slice none none (some (.UnaryOp .USub (.Constant (.int 1) k p1) p2)) p3) pos) (fun σ H Q => ta σ H fun x H1 => ∃ z, x = .str z ∧ z.length ≤ sizeLine ∧ Q (.str (revS z)) H1) := by
  refine ⟨fun pins s σ H Q I h => Subscript_ (thn (ha.run pins s σ H _ I h) fun v s1 ⟨x, H1, I1, r1, z, ex, hz, q⟩ => ?_)⟩
  subst ex
  obtain ⟨t, rfl⟩ := r1
  have one : PO X (some (.UnaryOp .USub (.Constant (.int 1) k p1) p2)) (tPart (tUn (rU fun i => .int (-i)) (tC (.int 1)))) := po_some (pe_un un_neg pe_int)
  refine wpAny_Slice (thn (po_none.run pins s1 σ H1 (fun o G => o = none ∧ G = H1) I1 ⟨rfl, rfl⟩) fun vl s2 ⟨l, H2, I2, pl, el, e2⟩ => thn (po_none.run pins s2 σ H2 (fun o G => o = none ∧ G = H1) I2 ⟨rfl, e2⟩) fun vu s3 ⟨u, H3, I3, pu, eu, e3⟩ => thn (one.run pins s3 σ H3 (fun o G => o = some (-1) ∧ G = H1) I3 ⟨1, rfl, -1, rfl, rfl, e3⟩) fun vs s4 ⟨o, H4, I4, ps, eo, e4⟩ => ?_)
  subst el; subst eu; subst eo; subst e4
  obtain ⟨l', rfl, hl'⟩ := IsPart.raw pl
  obtain ⟨u', rfl, hu'⟩ := IsPart.raw pu
  obtain ⟨s', rfl, hs'⟩ := IsPart.raw ps
  cases l' with
  | some _ => cases hl'
  | none =>
    cases u' with
    | some _ => cases hu'
    | none =>
      cases s' with
      | none => cases hs'
      | some st =>
        obtain ⟨j, uj⟩ := st
        obtain rfl : j = -1 := by
          have z : some j = some (-1 : Int) := by first | exact hs'.symm | exact hs'
          exact Option.some.inj z
        have I5 : Inv X pins σ H4 { s4 with heap := s4.heap.push { cls := .type "slice", data := .fields #[partValue none, partValue none, partValue (some (-1, uj))] } } := I4.kept (t' := s4.toks) fun b ob q => Heap.get?_push_of_some _ q
        refine tail_any (ops := [.ref s4.heap.objs.size, .str z t]) (typeIs_str _ _ _) F.slot_str_getitem.lookup ?_ (by with_unfolding_all rfl)
        refine wpAny_getItem_str_slice (l := none) (u := none) (st := some (-1, uj)) ⟨_, Heap.get?_push_size _ rfl, rfl, rfl⟩ (by rfl) ?_
        refine post_val_or_str ⟨Nat.le_trans (Txt.sliceBy_le z none none (-1, uj) (by show (-1 : Int) ≠ 0; decide)) hz, fun t' c => ?_⟩
        show EP X pins σ Q (Value.str (Txt.sliceBy z none none (-1, uj)) t') _
        rw [rev_text]
        exact ⟨.str (revS z), H4, I5.tok c, ⟨t', rfl⟩, q⟩
theorem d_revS {k : Nat} {p1 p2 p3 : Pos} (ha : DE X E a f) : DE X E (.Subscript a (.Slice none none (some (.UnaryOp .USub (.Constant (.int 1) k p1) p2)) p3) pos) (revE f) :=
  PE.conv (pe_revS ha) fun σ H Q ⟨ι, env, ms, r, ev, o⟩ => tR_seq r ev o fun ι1 H1 ms1 d x B o1 => by
    cases d with
    | str z =>
      by_cases hl : z.length ≤ LIM
      · simp only [if_pos hl] at o1
        exact ⟨z, B.r, by rw [← lim_eq]; exact hl, o1 _ ι1 H1 B.rel .refl rfl⟩
      · simp only [if_neg hl] at o1; exact o1.elim
    | _ => exact o1.elim

/-! ### x op= e of a name -/
@[simp] def augS (i : Nat) (f : Env → MS → Res D) (p : D → D → MS → Res D) : SF := fun env ms => match env[i]? with
  | some (some a) => (f env ms).bind fun b ms1 => (p a b ms1).bind fun d ms2 => .ok (.nx, env.set i (some d)) ms2
  | _ => .bad
theorem s_aug {i : Nat} {x : Str} {e : Expr} {op : Operator} {pos' : Pos} {r : R2} {p : D → D → MS → Res D} (ho : OpR X (inplaceOp op) r) (hp : P2 X.K E r p) (hN : X.N.Nodup) (hi : X.N[i]? = some x) (hx : Loc X.env.scope x) (he : DE X E e f)
    (hf : X.fn x = true ∨ X.env.scope.names.lookup x = some .local := by first | exact .inl rfl | exact .inr rfl | assumption) : DS X E (.AugAssign (.Name x pos') op e pos) (augS i f p) :=
  PS.conv (ps_aug hN hi hx he ho hf) fun σ H D ⟨ι, env, ms, r, ev, o⟩ => by
    unfold augS at o
    cases q : env[i]? with
    | none => rw [q] at o; exact o.elim
    | some d =>
      cases d with
      | none => rw [q] at o; exact o.elim
      | some a =>
        rw [q] at o
        obtain ⟨v, e1, e2⟩ := ev.2 i a q
        refine ⟨v, e1, tR_seqS r ev o fun ι1 H1 ms1 b y B o1 => ?_⟩
        refine hp ι1 H1 ms1 a b v y _ B.rel (Rp.mono B.le _ _ e2) B.r ?_
        cases q2 : p a b ms1 with
        | bad => rw [q2] at o1; exact o1
        | exc z ms2 => rw [q2] at o1; exact o1
        | ok d ms2 =>
          rw [q2] at o1
          exact fun w ι2 H2 R2 l2 rd => o1 _ ι2 H2 R2 l2 ((B.env.mono l2).set rd i)
@[simp] def iaddD : D → D → MS → Res D
  | .int i, .int j, ms => .ok (.int (i + j)) ms
  | .str i, .str j, ms => if i.length + j.length ≤ LIM then .ok (.str (i ++ j)) ms else .bad
  | _, _, _ => .bad
theorem q_iadd : P2 K E (fun x y H Q => rI0 (fun i j => .int (i + j)) x y H Q ∨ (∃ i j, x = .str i ∧ y = .str j ∧ i.length + j.length ≤ sizeLine ∧ Q (.str (i ++ j)) H)) iaddD := by
  intro ι H ms a b x y Q R ra rb o
  by_cases h : (∃ i j, a = .int i ∧ b = .int j)
  · obtain ⟨i, j, rfl, rfl⟩ := h
    exact .inl ⟨_, _, ra, rb, o _ ι H R .refl rfl⟩
  · by_cases h2 : (∃ i j, a = .str i ∧ b = .str j)
    · obtain ⟨i, j, rfl, rfl⟩ := h2
      have o' : Out K E (Rp K) ι H (if i.length + j.length ≤ LIM then .ok (.str (i ++ j)) ms else .bad) Q := o
      by_cases h : i.length + j.length ≤ LIM
      · rw [if_pos h] at o'
        exact .inr ⟨i, j, ra, rb, by rw [← lim_eq]; exact h, o' _ ι H R .refl rfl⟩
      · rw [if_neg h] at o'; exact o'.elim
    · have : iaddD a b ms = .bad := by
        cases a <;> cases b <;> first | rfl | exact (h ⟨_, _, rfl, rfl⟩).elim | exact (h2 ⟨_, _, rfl, rfl⟩).elim
      rw [this] at o
      exact o.elim
theorem op_iadd {X : Cx} : OpR X (inplaceOp .Add) (fun x y H Q => rI0 (fun i j => .int (i + j)) x y H Q ∨ (∃ i j, x = .str i ∧ y = .str j ∧ i.length + j.length ≤ sizeLine ∧ Q (.str (i ++ j)) H)) := iop_add.or iop_add_str

/-! ### constants of the top -/
theorem d_glob {x : Str} {v : V} {u : Value} {d : D} {pos : Pos} (hg : Gl X x) (hm : X.mg x = some u) (r : RelV v u) (hd : ∀ ι H, Rp X.K ι H d v) (hdb : (x == ("__debug__" : Str)) = false := by decide) : DE X E (.Name x pos) (cE d) := d_c (pe_glob hg hm r hdb) hd
end
end DL

set_option maxHeartbeats 1000000
namespace DL
open PySem PySem.Spec L2
open PyProof.Rows hiding St

/-- the same thing, shut: it is opened by its equation alone -/
noncomputable def shut {α : Type} (a : α) : α := Classical.choose (⟨a, rfl⟩ : ∃ b : α, b = a)
theorem shut_eq {α : Type} (a : α) : shut a = a := Classical.choose_spec (⟨a, rfl⟩ : ∃ b : α, b = a)
/-- a def of the text that keeps to its meaning -/
structure Cal (P : Program) (w : World) (K : PySem.W.Frag) (mg : Str → Option Value) (base : Heap) (k : Nat) (x : Str) (ps : List Str) (sem : List D → MS → Res D) where
  f : Addr
  fd : FuncData
  ok : FnOk P w K mg base CX0 k f fd ps (dSp K ps.length sem)
  g : mg x = some (.ref f)
  kp : PySem.W.keepIn K (.ref f) = true
  b : Binds K fd ps []
section
variable {X : Cx} {E : EW} {k n : Nat} {ps : List Str} {x : Str} {p pos : Pos} {e : Expr} {es : List Expr} {fs : Env → MS → Res (List D)} {sem : List D → MS → Res D}
theorem c_call (C : Cal X.prog X.w X.K X.mg X.base k x ps sem) (hr : Room k X.A) (ha : DA X E (e :: es) fs) (hg : Gl X x := by rfl) (hdb : (x == ("__debug__" : Str)) = false := by decide) (he : starEach (e :: es) X.env = (false, eval e X.env) :: starEach es X.env := by rfl) (hpl : (backTo pos (starEach es X.env)).any (·.1) = false := by rfl)
    (hn : ps.length = n := by rfl) : DE X E (.Call (.Name x p) (e :: es) [] pos) (appE fs (callP n sem)) := by
  subst hn
  exact d_call C.ok hr hg C.g C.kp C.b ha hdb he hpl
theorem c_callK {np m : Nat} {ks : List Str} {ix : List Nat} {kws : List Keyword} {fk : Env → MS → Res (List D)} (C : Cal X.prog X.w X.K X.mg X.base k x ps sem) (hr : Room k X.A) (hb : KwB X.K C.fd ps n ks ix)
    (ha : DA X E (e :: es) fs) (hkw : DK X E kws fk) (hg : Gl X x := by rfl) (hall : (backToKw pos (keywordEach kws X.env)).all (·.1.isSome) = true := by rfl) (hks : (backToKw pos (keywordEach kws X.env)).filterMap (·.1) = ks := by rfl)
    (hdb : (x == ("__debug__" : Str)) = false := by decide) (he : starEach (e :: es) X.env = (false, eval e X.env) :: starEach es X.env := by rfl)
    (hpl : ((backTo pos (starEach (e :: es) X.env)).any (·.1) || (backToKw pos (keywordEach kws X.env)).any (·.1.isNone)) = false := by rfl) (h1 : ps.length = np := by rfl) (h2 : ks.length = m := by rfl) : DE X E (.Call (.Name x p) (e :: es) kws pos) (kwE fs fk (kwP np n m ix sem)) := by
  subst h1; subst h2
  exact d_callK C.ok hr hg C.g C.kp hb ha hkw hall hks hdb he hpl
theorem c_callK0 {np m : Nat} {ks : List Str} {ix : List Nat} {kws : List Keyword} {fk : Env → MS → Res (List D)} (C : Cal X.prog X.w X.K X.mg X.base k x ps sem) (hr : Room k X.A) (hb : KwB X.K C.fd ps 0 ks ix)
    (hkw : DK X E kws fk) (hg : Gl X x := by rfl) (hall : (backToKw pos (keywordEach kws X.env)).all (·.1.isSome) = true := by rfl) (hks : (backToKw pos (keywordEach kws X.env)).filterMap (·.1) = ks := by rfl)
    (hdb : (x == ("__debug__" : Str)) = false := by decide)
    (hpl : ((backTo pos (starEach [] X.env)).any (·.1) || (backToKw pos (keywordEach kws X.env)).any (·.1.isNone)) = false := by rfl) (h1 : ps.length = np := by rfl) (h2 : ks.length = m := by rfl) : DE X E (.Call (.Name x p) [] kws pos) (kwE nilA fk (kwP np 0 m ix sem)) := by
  subst h1; subst h2
  exact d_callK0 C.ok hr hg C.g C.kp hb hkw hall hks hdb hpl
end
def spL (K : PySem.W.Frag) : Sp := fun vs H Q _ => ∃ (a : Addr) (ns : List Int), vs = [.ref a] ∧ ns.length ≤ 63 ∧ Only H ∧ SqL K H a (ns.map V.int) ∧ ∀ H', Q (.bl true) H'
theorem law_ok {P : Program} {w : World} {K : PySem.W.Frag} {mg : Str → Option Value} {base : Heap} {k : Nat} {f : Addr} {fd : FuncData} {x : Str} {sem : List D → MS → Res D} (F : FnOk P w K mg base CX0 k f fd [x] (dSp K 1 sem))
    (h : ∀ ns : List Int, ns.length ≤ 63 → ∃ ms, sem [.ro (ns.map D.int)] [] = .ok (.bl true) ms) : FnOk P w K mg base CX0 k f fd [x] (spL K) :=
  F.imp fun vs H Q _ ⟨a, ns, e, hl, hO, hS, hQ⟩ => by
    obtain ⟨ms, hs⟩ := h ns hl
    subst e
    refine ⟨⟨[], []⟩, [], [.ro (ns.map D.int)], ⟨rfl, List.nodup_nil, fun n p c h1 _ => by simp at h1, fun p hp => by cases hp⟩, Rps.mk1 ⟨a, ns.map V.int, rfl, ?_, Rps.ofInts⟩, rfl, ?_⟩
    · rcases hS with (hS | ⟨o, hS⟩) | hS
      · rcases hO a with z | ⟨o, xs, z⟩
        · rw [hS] at z; cases z
        · rw [hS] at z; cases z
      · exact .inl ⟨o, hS⟩
      · exact .inr hS
    · rw [hs]
      intro v ι' H' _ _ rv
      obtain rfl : v = .bl true := rv
      exact hQ H'
theorem law_walk {l : PySem.W.OpenLaw} {q : Program} {loose : List Str} {XP : (Str → Option Value) → Heap → Prop} {YP : World → Heap → Prop} {d : DefRec} {K : Params → PySem.W.Frag} (k : Nat) {x : Str} (hr : Room k callerA) (hn : l.most = some 63) (hdf : d.params.defaults = [])
    (hY : ∀ (w : World) (h : Heap), YP w h → (K w.params).In h)
    (F : ∀ (w : World) (mg : Str → Option Value) (fa : Addr) (h : Heap), (K w.params).In h → h.Ns mainGlobals mg → mg d.name = some (.ref fa) →
      ∃ fd : FuncData, (∀ (s : Shared) (u : Value), BindsTo s fd ⟨[u], []⟩ [(x, u)]) ∧ ∀ base : Heap, (K w.params).In base → base.Ns mainGlobals mg → FnOk l.prog w (K w.params) mg base CX0 k fa fd [x] (spL (K w.params))) :
    PySem.W.WalkO q loose XP YP l.row.toRowW d [] (fun f vs => PySem.call f vs) :=
  L2.walk_of (n := 63) (k := k) (x := x) (CX := fun _ => CX0) (sp := fun w => spL (K w.params)) hn (by decide) hdf hr hY F (fun _ _ a ns hl hO hS => ⟨a, ns, rfl, hl, hO, hS, fun _ => rfl⟩) fun _ _ _ _ _ z => z
/-- no call is left: nothing is promised -/
theorem none_ok {P : Program} {w : World} {K : PySem.W.Frag} {mg : Str → Option Value} {base : Heap} {k : Nat} {f : Addr} {fd : FuncData} {ps : List Str} {n : Nat} : FnOk P w K mg base CX0 k f fd ps (dSp K n fun _ _ => .bad) := by
  have no : ∀ vs H Q E, ¬ dSp K n (fun _ _ => .bad) vs H Q E := fun vs H Q E ⟨_, _, _, _, _, _, o⟩ => o
  exact ⟨fun vs H Q E h => absurd h (no vs H Q E), fun A outer s H args us vs Q E _ _ _ _ h => absurd h (no vs H Q E)⟩
@[simp] def negD (d : D) (ms : MS) : Res D := match d with
  | .int i => .ok (.int (-i)) ms
  | _ => .bad
theorem d_neg {X : Cx} {E : EW} {a : Expr} {f : Env → MS → Res D} {pos : Pos} (ha : DE X E a f) : DE X E (.UnaryOp .USub a pos) (unE f negD) :=
  PE.conv (pe_un un_neg ha) fun σ H Q ⟨ι, env, ms, r, ev, o⟩ => tR_seq r ev o fun ι1 H1 ms1 d x B o1 => by
    cases d with
    | int i => exact ⟨i, B.r, o1 _ ι1 H1 B.rel .refl rfl⟩
    | _ => exact o1.elim
end DL

set_option maxHeartbeats 1000000
namespace DL
open PySem PySem.Spec L2
open PyProof.Rows hiding St

/-! ### meanings that end well -/
def OK {α : Type} (r : Res α) (Q : α → MS → Prop) : Prop := ∃ a ms, r = .ok a ms ∧ Q a ms
theorem OK.pure {α : Type} {a : α} {ms : MS} {Q : α → MS → Prop} (h : Q a ms) : OK (.ok a ms) Q := ⟨a, ms, rfl, h⟩
@[simp] theorem OK_ok {α : Type} {a : α} {ms : MS} {Q : α → MS → Prop} : OK (.ok a ms) Q ↔ Q a ms := ⟨fun ⟨_, _, e, h⟩ => by cases e; exact h, OK.pure⟩
theorem OK.bind {α β : Type} {r : Res α} {k : α → MS → Res β} {P : α → MS → Prop} {Q : β → MS → Prop} (h : OK r P) (hk : ∀ a ms, P a ms → OK (k a ms) Q) : OK (r.bind k) Q := by
  obtain ⟨a, ms, rfl, p⟩ := h
  exact hk a ms p
theorem OK.mono {α : Type} {r : Res α} {P Q : α → MS → Prop} (h : OK r P) (hq : ∀ a ms, P a ms → Q a ms) : OK r Q := by
  obtain ⟨a, ms, e, p⟩ := h
  exact ⟨a, ms, e, hq a ms p⟩
theorem OK.noExc {α : Type} {r : Res α} {Q : α → MS → Prop} (h : OK r Q) : OK (noExc r) Q := by
  obtain ⟨a, ms, rfl, p⟩ := h
  exact ⟨a, ms, rfl, p⟩

/-! ### loops by an invariant -/
theorem rngNx_eq (lo : Int) (n i : Nat) : rngNx lo n i = nxOf (some ((List.range n).map fun (k : Nat) => D.int (lo + k))) i := by
  unfold rngNx nxOf
  by_cases h : i < n
  · simp [h]
  · rw [if_neg h]
    have : ((List.range n).map fun (k : Nat) => D.int (lo + k))[i]? = none := by simp; omega
    simp only [this]
/-- I between the turns; B behind a break, R at a return -/
theorem for_inv {nx : Nat → MS → WOut} {turn : D → SF} (items : List D) (I : Nat → Env → MS → Prop) (B : Env → MS → Prop) (R : D → MS → Prop) (hnx : ∀ i env ms, i ≤ items.length → I i env ms → nx i ms = nxOf (some items) i)
    (hs : ∀ i x env ms, items[i]? = some x → I i env ms → OK (turn x env ms) fun a ms' => match a.1 with | .nx => I (i + 1) a.2 ms' | .cont => I (i + 1) a.2 ms' | .brk => B a.2 ms' | .ret d => R d ms') :
    ∀ (n i : Nat) (env : Env) (ms : MS), items.length < i + n → i ≤ items.length → I i env ms → OK (forLoop nx turn n i env ms) fun a ms' => match a.1 with | .nx => I items.length a.2 ms' ∨ B a.2 ms' | .ret d => R d ms' | _ => False
  | 0, i, env, ms, h1, h2, _ => absurd h1 (by omega)
  | n + 1, i, env, ms, h1, h2, hI => by
    unfold forLoop
    rw [hnx i env ms h2 hI]
    unfold nxOf
    by_cases hi : i < items.length
    · have e : items[i]? = some items[i] := List.getElem?_eq_getElem hi
      simp only [e]
      refine OK.bind (hs i _ env ms e hI) fun a ms1 h => ?_
      obtain ⟨fl, env1⟩ := a
      cases fl with
      | nx => exact for_inv items I B R hnx hs n (i + 1) env1 ms1 (by omega) hi h
      | cont => exact for_inv items I B R hnx hs n (i + 1) env1 ms1 (by omega) hi h
      | brk => exact OK.pure (.inr h)
      | ret d => exact OK.pure h
    · have e : items[i]? = none := List.getElem?_eq_none (by omega)
      simp only [e]
      have : i = items.length := by omega
      subst this
      exact OK.pure (.inl hI)
theorem comp_inv {nx : Nat → MS → WOut} {step : D → MS → Res (Option D)} (items : List D) (I : Nat → List D → MS → Prop) (hnx : ∀ i acc ms, i ≤ items.length → I i acc ms → nx i ms = nxOf (some items) i) (hl : ∀ i acc ms, i ≤ items.length → I i acc ms → acc.length ≤ i) (hz : items.length ≤ LIM)
    (hs : ∀ i x acc ms, items[i]? = some x → I i acc ms → OK (step x ms) fun o ms' => match o with | none => I (i + 1) acc ms' | some y => I (i + 1) (acc ++ [y]) ms') :
    ∀ (n i : Nat) (acc : List D) (ms : MS), items.length < i + n → i ≤ items.length → I i acc ms → OK (compLoop nx step n i acc ms) fun r ms' => I items.length r ms'
  | 0, i, acc, ms, h1, h2, _ => absurd h1 (by omega)
  | n + 1, i, acc, ms, h1, h2, hI => by
    unfold compLoop
    rw [hnx i acc ms h2 hI]
    unfold nxOf
    by_cases hi : i < items.length
    · have e : items[i]? = some items[i] := List.getElem?_eq_getElem hi
      simp only [e]
      refine OK.bind (hs i _ acc ms e hI) fun o ms1 h => ?_
      cases o with
      | none => exact comp_inv items I hnx hl hz hs n (i + 1) acc ms1 (by omega) hi h
      | some y =>
        have := hl i acc ms h2 hI
        simp only
        rw [if_pos (by omega)]
        exact comp_inv items I hnx hl hz hs n (i + 1) (acc ++ [y]) ms1 (by omega) hi h
    · have e : items[i]? = none := List.getElem?_eq_none (by omega)
      simp only [e]
      have : i = items.length := by omega
      subst this
      exact OK.pure hI
/-- a comprehension whose elements are reckoned without the cells: the list of the values -/
theorem comp_map {nx : Nat → MS → WOut} {step : D → MS → Res (Option D)} {items : List D} {ms : MS} (h : D → D) (hnx : ∀ i, nx i ms = nxOf (some items) i) (hz : items.length ≤ LIM) (hs : ∀ x, x ∈ items → step x ms = .ok (some (h x)) ms) {n : Nat} (hn : items.length < n) :
    compLoop nx step n 0 [] ms = .ok (items.map h) ms := by
  obtain ⟨a, ms1, e, ha, hm⟩ := comp_inv (nx := nx) (step := step) items (fun i acc m => acc = (items.take i).map h ∧ m = ms) (fun i acc m _ hI => by rw [hI.2]; exact hnx i) (fun i acc m hi hI => by rw [hI.1]; simp; omega) hz
    (fun i x acc m hx hI => by
      rw [hI.2, hs x (List.mem_of_getElem? hx)]
      refine OK.pure ⟨?_, rfl⟩
      rw [hI.1, List.take_add_one, hx, List.map_append]
      rfl) n 0 [] ms (by omega) (by omega) ⟨by simp, rfl⟩
  rw [e, hm, ha, List.take_length]
theorem comp_filter {nx : Nat → MS → WOut} {step : D → MS → Res (Option D)} {items : List D} {ms : MS} (h : D → Option D) (hnx : ∀ i, nx i ms = nxOf (some items) i) (hz : items.length ≤ LIM) (hs : ∀ x, x ∈ items → step x ms = .ok (h x) ms) {n : Nat} (hn : items.length < n) :
    compLoop nx step n 0 [] ms = .ok (items.filterMap h) ms := by
  obtain ⟨a, ms1, e, ha, hm⟩ := comp_inv (nx := nx) (step := step) items (fun i acc m => acc = (items.take i).filterMap h ∧ m = ms) (fun i acc m _ hI => by rw [hI.2]; exact hnx i) (fun i acc m hi hI => by rw [hI.1]; exact Nat.le_trans (List.length_filterMap_le ..) (by simp; omega)) hz
    (fun i x acc m hx hI => by
      rw [hI.2, hs x (List.mem_of_getElem? hx)]
      cases q : h x with
      | none =>
        refine OK.pure ⟨?_, rfl⟩
        rw [hI.1, List.take_add_one, hx, List.filterMap_append]
        simp [q]
      | some y =>
        refine OK.pure ⟨?_, rfl⟩
        rw [hI.1, List.take_add_one, hx, List.filterMap_append]
        simp [q]) n 0 [] ms (by omega) (by omega) ⟨by simp, rfl⟩
  rw [e, hm, ha, List.take_length]

@[simp] theorem le_lim_iff (n : Nat) : (n ≤ LIM) = (n ≤ 16777216) := rfl
@[simp] theorem lt_lim_iff (n : Nat) : (n < LIM) = (n < 16777216) := rfl
/-! ### items -/
theorem atI_lit {α : Type} (xs : List α) (i : Nat) : atI xs (i : Int) = xs[i]? := by
  unfold atI ixN
  rw [if_pos (Int.natCast_nonneg i)]
  by_cases h : i < xs.length
  · rw [if_pos (by omega)]
    simp
  · rw [if_neg (by omega), List.getElem?_eq_none (by omega)]
    rfl
@[simp] theorem atI_0 {α : Type} (xs : List α) : atI xs 0 = xs[0]? := atI_lit xs 0
@[simp] theorem atI_1 {α : Type} (xs : List α) : atI xs 1 = xs[1]? := atI_lit xs 1
@[simp] theorem atI_2 {α : Type} (xs : List α) : atI xs 2 = xs[2]? := atI_lit xs 2
@[simp] theorem atI_3 {α : Type} (xs : List α) : atI xs 3 = xs[3]? := atI_lit xs 3
@[simp] theorem atI_4 {α : Type} (xs : List α) : atI xs 4 = xs[4]? := atI_lit xs 4
@[simp] theorem atI_5 {α : Type} (xs : List α) : atI xs 5 = xs[5]? := atI_lit xs 5
@[simp] theorem atI_6 {α : Type} (xs : List α) : atI xs 6 = xs[6]? := atI_lit xs 6
@[simp] theorem boolsOf_comp {α : Type} (f : α → Bool) (l : List α) : boolsOf (l.map (D.bl ∘ f)) = some (l.map f) := by
  rw [← List.map_map, boolsOf_map]
@[simp] theorem boolsOf_fun {α : Type} (f : α → Bool) (l : List α) : boolsOf (l.map fun x => D.bl (f x)) = some (l.map f) := boolsOf_comp f l
theorem atI_in {α : Type} {xs : List α} {i : Int} (h0 : 0 ≤ i) (h : i < xs.length) : ∃ x, atI xs i = some x ∧ x ∈ xs := by
  obtain ⟨k, rfl⟩ := Int.eq_ofNat_of_zero_le h0
  rw [atI_lit]
  have hk : k < xs.length := by omega
  exact ⟨xs[k], List.getElem?_eq_getElem hk, List.getElem_mem hk⟩
end DL

set_option maxHeartbeats 1000000
namespace HT
open PySem PySem.Spec PyProof.Rows
section
variable {prog : Program} {w : World} {A : Around} {E : Value → Shared → Prop} {s : Shared}
theorem rev_adjust (n : Nat) : Builtin.Slice.sliceAdjust none none (-1) (n : Int) = ((n : Int) - 1, -1) := rfl
theorem rev_places (n : Nat) : Builtin.Slice.slicePlaces ((n : Int) - 1) (-1) (-1) = n := by
  unfold Builtin.Slice.slicePlaces
  rw [if_neg (by decide)]
  by_cases h : n = 0
  · subst h; rfl
  · rw [if_pos (by omega)]
    have e : ((n : Int) - 1 - -1 - 1) / - -1 = (n : Int) - 1 := by
      have : (- -1 : Int) = 1 := rfl
      rw [this, Int.ediv_one]
      omega
    rw [e]
    omega
theorem rev_pick (xs : Array Value) : ((List.range xs.size).filterMap fun (k : Nat) => xs[(((xs.size : Int) - 1) + (k : Int) * (-1)).toNat]?) = xs.toList.reverse := by
  have h : ∀ k ∈ List.range xs.size, (fun (k : Nat) => xs[(((xs.size : Int) - 1) + (k : Int) * (-1)).toNat]?) k = (fun k => xs.toList.reverse[k]?) k := by
    intro k hk
    have hk' : k < xs.size := List.mem_range.mp hk
    show xs[(((xs.size : Int) - 1) + (k : Int) * (-1)).toNat]? = xs.toList.reverse[k]?
    rw [List.getElem?_reverse (by simpa using hk')]
    have e : (((xs.size : Int) - 1) + (k : Int) * (-1)).toNat = xs.toList.length - 1 - k := by simp; omega
    rw [e]
    simp
  have cg : ∀ (l : List Nat) (f g : Nat → Option Value), (∀ k ∈ l, f k = g k) → l.filterMap f = l.filterMap g := by
    intro l f g hl
    induction l with
    | nil => rfl
    | cons a l ih => rw [List.filterMap_cons, List.filterMap_cons, hl a (List.mem_cons_self ..), ih fun k hk => hl k (List.mem_cons_of_mem _ hk)]
  have e := cg _ _ _ h
  rw [e]
  apply List.ext_getElem?
  intro i
  have : ∀ (l : List Value), (List.range l.length).filterMap (fun k => l[k]?) = l := by
    intro l
    induction l with
    | nil => rfl
    | cons a l ih =>
      rw [List.length_cons, List.range_succ_eq_map, List.filterMap_cons]
      simp only [List.getElem?_cons_zero, List.filterMap_map]
      congr 1
  have e2 := this xs.toList.reverse
  rw [List.length_reverse, Array.length_toList] at e2
  rw [e2]
theorem slicePart_int {j : Int} {u : Tok} {Q : Option Int → Shared → Prop} (h : Q (some j) s) : wpAny (model prog w) A (Builtin.Slice.slicePartIndex (.int j u)) Q E s := slicePart_ (.int j u) h
theorem sliceApplied_rev {sl : Addr} {u : Tok} {n : Nat} {Q : Int × Int × Nat → Shared → Prop} (hs : s.heap.IsSliceOf sl .none .none (.int (-1) u))
    (h : Q ((n : Int) - 1, -1, n) s) : wpAny (model prog w) A (Builtin.Slice.sliceApplied (.ref sl) (pure (n : Int))) Q E s := by
  obtain ⟨os, hos, hcs, hds⟩ := id hs
  unfold Builtin.Slice.sliceApplied Builtin.Slice.sliceFields
  refine wpAny_bind (wpAny_bind (wpAny_field hos hds (x := .none) rfl (wpAny_bind (wpAny_field hos hds (x := .none) rfl (wpAny_bind (wpAny_field hos hds (x := .int (-1) u) rfl (wpAny_pure ?_)))))))
  refine wpAny_bind (slicePart_int ?_)
  show wpAny _ _ (if ((-1 : Int) == 0) = true then _ else _) _ _ s
  rw [if_neg (by decide)]
  refine wpAny_bind (slicePart_none (wpAny_bind (slicePart_none (wpAny_bind (wpAny_pure ?_)))))
  show wpAny _ _ (match Builtin.Slice.sliceAdjust none none (-1) (n : Int) with | (lo, hi) => pure (lo, (-1 : Int), Builtin.Slice.slicePlaces lo hi (-1))) _ _ s
  rw [rev_adjust n]
  show wpAny _ _ (pure ((n : Int) - 1, (-1 : Int), Builtin.Slice.slicePlaces ((n : Int) - 1) (-1) (-1))) _ _ s
  rw [rev_places]
  exact wpAny_pure h
theorem getItem_tuple_rev {t sl : Addr} {items : Array Value} {u : Tok} {Q : Value → Shared → Prop} (ht : IsTup s.heap t items) (hs : s.heap.IsSliceOf sl .none .none (.int (-1) u))
    (h : Q (.ref s.heap.objs.size) { s with heap := s.heap.push { cls := .type "tuple", data := .seq items.toList.reverse.toArray } })
    (hsz : items.size ≤ sizeLine) : wpAny (model prog w) A (getItem (.ref t) (.ref sl)) Q E s := by
  have htake : sizeOk (.seq items.toList.reverse.toArray) := by
    show items.toList.reverse.toArray.size ≤ sizeLine
    rw [List.size_toArray, List.length_reverse, Array.length_toList]
    omega
  obtain ⟨os, hos, hcs, hds⟩ := id hs
  have hTs : s.TypeIs (.ref sl) "slice" := ⟨os, hos, hcs⟩
  unfold getItem
  try with_reducible refine wpAny_holding ?_
  first | refine wpAny_bind (wpAny_pure ?_) | skip
  refine wpAny_bind (wpAny_sequenceKey ht.typeIs (by decide) ?_)
  refine wpAny_bind (wpAny_callSpecial?_slot (name := Str.ofString "__getitem__") ht.typeIs PyProof.Rows.slot_tuple_getitem
    (wpAny_call_entry PyProof.Rows.slot_tuple_getitem ht.typeIs entry_tuple_getitem ?_ (args_tuple_getitem _ _)))
  show wpAny _ _ (Builtin.Tuple.tupleItemsOf (.ref t) >>= _) _ _ s
  refine wpAny_bind (tupleItemsOf_ ht ?_)
  refine wpAny_bind (wpAny_typeOf hTs ?_)
  rw [if_pos (by decide)]
  refine wpAny_bind (sliceApplied_rev hs ?_)
  have hno : ¬ ((((items.size : Int) - 1) == 0 && (-1 : Int) == 1 && items.size == items.size) = true) := by
    intro q
    rw [Bool.and_eq_true, Bool.and_eq_true] at q
    exact absurd q.1.2 (by decide)
  show wpAny _ _ (if (((items.size : Int) - 1) == 0 && (-1 : Int) == 1 && items.size == items.size) = true then _ else _) _ _ s
  rw [if_neg hno, rev_pick]
  first
    | exact wpAny_bind (m := Builtin.Tuple.tupleExact _) (wpAny_newObj_type (wpAny_pure ⟨_, rfl, wpAny_pure h⟩) htake)
    | exact wpAny_bind (m := Builtin.Tuple.tupleExact _) (wpAny_newObj_type (wpAny_bind (wpAny_pure (wpAny_pure ⟨_, rfl, wpAny_pure h⟩))) htake)
    | exact wpAny_bind (wpAny_bind (m := Builtin.Tuple.tupleExact _) (wpAny_newObj_type (wpAny_pure (wpAny_pure ⟨_, rfl, wpAny_pure h⟩)) htake))
    | exact wpAny_bind (wpAny_bind (m := Builtin.Tuple.tupleExact _) (wpAny_newObj_type (wpAny_pure ⟨_, rfl, wpAny_pure h⟩) htake))
end
end HT
namespace DL
open PySem PySem.Spec L2
open PyProof.Rows hiding St

/-! ### t[::-1] of a tuple -/
@[simp] def revT (f : Env → MS → Res D) (env : Env) (ms : MS) : Res D := (f env ms).bind fun d ms1 => match d with
  | .tup ds => mkTup ds.reverse ms1
  | _ => .bad
theorem vals_reverse {xs : List V} {us : List Value} (r : Vals xs us) : Vals xs.reverse us.reverse := by
  induction r with
  | nil => exact .nil
  | cons a t ih => rw [List.reverse_cons, List.reverse_cons]; exact ih.append (.cons a .nil)
section
variable {X : Cx} {E : EW} {a : Expr} {f : Env → MS → Res D} {pos : Pos}
theorem pe_revT {k : Nat} {p1 p2 p3 : Pos} {ta : TE} (ha : PE X a ta) : PE X (.Subscript a (.Slice none none (some (.UnaryOp .USub (.Constant (.int 1) k p1) p2)) p3) pos) (fun σ H Q => ta σ H fun x H1 => ∃ b xs, x = .ref b ∧ SqT X.K H1 b xs ∧ ∀ p, H1 p = none → Q (.ref p) (upd H1 p (.tup xs.reverse))) := by
  refine ⟨fun pins s σ H Q I h => Subscript_ (thn (ha.run pins s σ H _ I h) fun v s1 ⟨x, H1, I1, r1, b, xs, ex, hx, q⟩ => ?_)⟩
  subst ex
  cases r1
  have one : PO X (some (.UnaryOp .USub (.Constant (.int 1) k p1) p2)) (tPart (tUn (rU fun i => .int (-i)) (tC (.int 1)))) := po_some (pe_un un_neg pe_int)
  refine wpAny_Slice (thn (po_none.run pins s1 σ H1 (fun o G => o = none ∧ G = H1) I1 ⟨rfl, rfl⟩) fun vl s2 ⟨l, H2, I2, pl, el, e2⟩ => thn (po_none.run pins s2 σ H2 (fun o G => o = none ∧ G = H1) I2 ⟨rfl, e2⟩) fun vu s3 ⟨u, H3, I3, pu, eu, e3⟩ => thn (one.run pins s3 σ H3 (fun o G => o = some (-1) ∧ G = H1) I3 ⟨1, rfl, -1, rfl, rfl, e3⟩) fun vs s4 ⟨o, H4, I4, ps, eo, e4⟩ => ?_)
  subst el; subst eu; subst eo; subst e4
  cases pl; cases pu
  cases ps with
  | int j uj =>
    have I5 : Inv X pins σ H4 { s4 with heap := s4.heap.push { cls := .type "slice", data := .fields #[.none, .none, .int (-1) uj] } } := I4.kept (t' := s4.toks) fun b ob q => Heap.get?_push_of_some _ q
    obtain ⟨its, r, ht, hz⟩ := I5.tuple hx
    have hlen : its.toArray.size = xs.length := by rw [List.size_toArray]; exact r.length.symm
    refine tail_any (ops := [.ref b, .ref s4.heap.objs.size]) ht.typeIs PyProof.Rows.slot_tuple_getitem.lookup ?_ (by with_unfolding_all rfl)
    refine HT.getItem_tuple_rev ht (u := uj) (Heap.IsSliceOf.new ..) ?_ (by rw [hlen]; exact hz)
    refine ⟨.ref _, _, I5.laid (t' := s4.toks) (o := .tup xs.reverse) (fun b ob q => Heap.get?_push_of_some _ q) (Nat.le_refl _) ?_, rfl, q _ (I5.hok.fresh (Nat.le_refl _))⟩
    exact ⟨by rw [List.length_reverse]; exact hz, _, vals_reverse r, IsTup.new _ _⟩
theorem d_revT {k : Nat} {p1 p2 p3 : Pos} (ha : DE X E a f) : DE X E (.Subscript a (.Slice none none (some (.UnaryOp .USub (.Constant (.int 1) k p1) p2)) p3) pos) (revT f) :=
  PE.conv (pe_revT ha) fun σ H Q ⟨ι, env, ms, r, ev, o⟩ => tR_seq r ev o fun ι1 H1 ms1 d x B o1 => by
    cases d with
    | tup ds =>
      obtain ⟨b, xs, rfl, hq, rs⟩ := B.r
      exact ⟨b, xs, rfl, hq, (mkTup_ok B.rel rs.reverse o1).2⟩
    | _ => exact o1.elim
end
/-! ### xs.extend(t) of a tuple -/
open PySem.AutoSeq1 in
theorem ext_tup (l b : Addr) (xs ys : Array Value) (n m : Nat) (dd : Option Addr) (sl : Array (Option Value)) (few : Builtin.List.listTooLong (xs.size + ys.size) = false) (hx : xs.size ≤ sizeLine) (hxy : (xs ++ ys).size ≤ sizeLine + 1) :
    Meets (Builtin.«list.extend» ⟨[.ref l, .ref b], []⟩) (fun _ R s => s.heap.get? l = some { cls := .type "list", data := .seq xs n } ∧ s.heap.get? b = some ⟨.type "tuple", dd, .seq ys m, sl⟩ ∧ R (.ok (.ret Value.none)) { s with heap := s.heap.update l (Obj.mapSeq fun x => x ++ ys) }) :=
  .of_wp fun prog w A R s q => by
    obtain ⟨hp, g, d, tk, os⟩ := s
    obtain ⟨atl, atb, end_⟩ := q
    have k1 := idx_int
    have k2 := AutoSeq1.sub_tuple_tuple
    have k3 := AutoSeq1.sub_list_list
    have k4 := AutoSeq1.sub_tuple_list
    have k5 := AutoSeq1.sub_list_tuple
    have hs0 : ¬(!xs.isEmpty && Builtin.List.listTooLong (xs.size + ys.size)) = true := by rw [few, Bool.and_false]; exact Bool.false_ne_true
    wp_walk using (wpAny_updateSeq atl rfl (hz := hx) (_hz' := hxy)), wpAny_loadPart' atl, wpAny_loadPart' atb
    exact ⟨_, rfl, end_⟩

def rExtT (K : PySem.W.Frag) : V → List V → Hp → VK → Prop := fun x vs H Q => ∃ l b xs zs, x = .ref l ∧ vs = [.ref b] ∧ H l = some (.lst xs) ∧ SqT K H b zs ∧ xs.length + zs.length ≤ sizeLine ∧ Q .non (upd H l (.lst (xs ++ zs)))
theorem mt_extT {X : Cx} : MtM X "list.extend" (rExtT X.K) := by
  intro pins s σ H x vs v us Q I rx rv h
  obtain ⟨l, b, xs, zs, rfl, rfl, hH, hB, hz, q⟩ := h
  cases rx
  obtain ⟨u, rfl, ru⟩ := rv.one
  cases ru
  obtain ⟨z, its, n, r, hl, e⟩ := I.lstM hH
  obtain ⟨its2, r2, ⟨⟨oc, dd, od, sl⟩, e2, hc, m, hd⟩, hz2⟩ := I.tuple hB
  simp only at hc hd
  subst hc hd
  have hl2 := r2.length
  have few : Builtin.List.listTooLong (its.toArray.size + its2.toArray.size) = false := notLongL (by rw [List.size_toArray, List.size_toArray]; omega)
  refine call_meets F.slot_list_extend ⟨_, e, rfl⟩ F.entry_list_extend (F.args_list_extend_2 _ _)
    (ext_tup l b its.toArray its2.toArray n m dd sl few (by rw [List.size_toArray]; omega) (by rw [Array.size_append, List.size_toArray, List.size_toArray]; omega)) ⟨e, e2, ?_⟩
  refine ⟨.non, _, I.lset (its' := its ++ its2) hH e (by simp) (r.append r2) ?_, rfl, q⟩
  rw [List.length_append]
  omega
theorem mtOr {X : Cx} {id : String} {r r' : V → List V → Hp → VK → Prop} (h : MtM X id r) (h' : MtM X id r') : MtM X id (fun x vs H Q => r x vs H Q ∨ r' x vs H Q) := by
  intro pins s σ H x vs v us Q I rx rv q
  rcases q with q | q
  · exact h pins s σ H x vs v us Q I rx rv q
  · exact h' pins s σ H x vs v us Q I rx rv q
/-- xs.extend(t), t a tuple or a list -/
@[simp] def extOf (ms : MS) : D → Option (List D)
  | .tup ds => some ds
  | d => lstOf ms d
@[simp] def extA (fo fe : Env → MS → Res D) (env : Env) (ms : MS) : Res D := (fo env ms).bind fun o ms1 => match cellL ms1 o with
  | none => .bad
  | some _ => (fe env ms1).bind fun d ms2 => match cellL ms2 o with
    | some (n, ds) => match extOf ms2 d with
      | some es => if ds.length + es.length ≤ LIM then .ok .non (ms2.set n (.lst (ds ++ es))) else .bad
      | none => .bad
    | none => .bad
section
variable {X : Cx} {E : EW} {o e : Expr} {fo fe : Env → MS → Res D} {apos pos : Pos}
theorem d_extA (ho : DE X E o fo) (he : DE X E e fe) (hbase : attributeBase o "extend" X.env (eval o X.env) = eval o X.env := by rfl)
    (hfew : (((backTo pos (starEach [e] X.env)).all fun x => !x.1) && (backToKw pos (keywordEach [] X.env)).all (·.1.isSome) && decide ([e].length + ([] : List Keyword).length + (if ([] : List Keyword).isEmpty then 0 else 1) < 30)) = true := by rfl)
    (hline : (apos.endLine == pos.line) = true := by rfl) (hs : starEach [e] X.env = (false, eval e X.env) :: starEach [] X.env := by rfl) (hplain : (backTo pos (starEach [] X.env)).any (·.1) = false := by rfl) :
    DE X E (.Call (.Attribute o "extend" apos) [e] [] pos) (extA fo fe) :=
  PE.conv (pe_bm PySem.F.plainAttrs_list PySem.F.slot_list_extend PySem.F.type_list_extend (mtOr mt_extend mt_extT) ho (a_cons he a_nil hs) (hbase := hbase) (hfew := hfew) (hline := hline) (hs := hs) (hplain := hplain)) fun σ H Q ⟨ι, env, ms, r, ev, o⟩ => by
    refine tR_seq r ev o fun ι1 H1 ms1 d x B o1 => ?_
    cases q1 : cellL ms1 d with
    | none => simp only [q1] at o1; exact o1.elim
    | some z =>
      obtain ⟨n, ds⟩ := z
      simp only [q1] at o1
      obtain ⟨p, xs, rfl, hn, h1, h2⟩ := B.rel.cellL q1 B.r
      refine ⟨seq_tyL h1, ι1, env, ms1, B.rel, B.env, ?_⟩
      unfold consA
      cases q2 : fe env ms1 with
      | bad => simp only [q2] at o1; exact o1
      | exc y ms2 => simp only [q2] at o1; exact o1
      | ok y ms2 =>
        simp only [q2, bind_ok] at o1
        simp only [bind_ok, nilA]
        intro vs ι2 H2 R2 l2 rv
        obtain ⟨v, rfl, ry⟩ := rv.one
        cases q3 : cellL ms2 d with
        | none => simp only [q3] at o1; exact o1.elim
        | some z =>
          obtain ⟨m, es⟩ := z
          simp only [q3] at o1
          obtain ⟨p', ys, e1, hm, h3, h4⟩ := R2.cellL q3 (Rp.mono l2 _ _ B.r)
          cases e1
          cases q4 : extOf ms2 y with
          | none => simp only [q4] at o1; exact o1.elim
          | some us =>
            simp only [q4] at o1
            by_cases hl : es.length + us.length ≤ LIM
            · simp only [if_pos hl] at o1
              by_cases ht : ∃ ws, y = .tup ws
              · obtain ⟨ws, rfl⟩ := ht
                cases q4
                obtain ⟨b, zs, rfl, hq, r5⟩ := ry
                have w := Le.write (o := .lst (ys ++ zs)) R2 hm
                refine .inr ⟨p, b, ys, zs, rfl, rfl, h3, hq, by rw [h4.length, r5.length, ← lim_eq]; exact hl, ?_⟩
                exact o1 _ ι2 _ (R2.write hm ⟨_, upd_same, Rps.mono w _ _ (h4.append r5)⟩) (l2.trans w) rfl
              · have q5 : lstOf ms2 y = some us := by
                  cases y with
                  | tup ws => exact (ht ⟨ws, rfl⟩).elim
                  | _ => exact q4
                obtain ⟨b, zs, rfl, r5, hq⟩ := R2.lst q5 ry
                have w := Le.write (o := .lst (ys ++ zs)) R2 hm
                refine .inl ⟨p, b, ys, zs, rfl, rfl, h3, hq, by rw [h4.length, r5.length, ← lim_eq]; exact hl, ?_⟩
                exact o1 _ ι2 _ (R2.write hm ⟨_, upd_same, Rps.mono w _ _ (h4.append r5)⟩) (l2.trans w) rfl
            · simp only [if_neg hl] at o1; exact o1.elim
end
/-! ### xs[a:c] = ys -/
def gSpl (to : TE) (tl th : TO) : TG := fun v σ H Q => to σ H fun o H1 => tl σ H1 fun lo H2 => th σ H2 fun hi H3 => ∃ l b xs ys a c, o = .ref l ∧ v = .ref b ∧ lo = some a ∧ hi = some c ∧ H3 l = some (.lst xs) ∧ H3 b = some (.lst ys) ∧ l ≠ b ∧
  0 ≤ a ∧ a ≤ c ∧ c ≤ xs.length ∧ xs.length + ys.length ≤ sizeLine ∧ Q σ (upd H3 l (.lst (xs.take a.toNat ++ ys ++ xs.drop c.toNat)))
section
variable {X : Cx} {E : EW} {o lo hi : Expr} {pos p2 : Pos}
theorem pg_spl {to : TE} {tl th : TO} (ho : PE X o to) (hl : PO X (some lo) tl) (hh : PO X (some hi) th)
    (ha : ∀ v, assign (.Subscript o (.Slice (some lo) (some hi) none p2) pos) X.env v = (do
      let ov ← holding [v] (eval o X.env)
      let iv ← holding [v, ov] (eval (.Slice (some lo) (some hi) none p2) X.env)
      standAt pos
      holding [v, ov, iv] (setItem ov iv v)
      release [iv, v, ov] []) := by intro _; rfl) : PG X (.Subscript o (.Slice (some lo) (some hi) none p2) pos) (gSpl to tl th) := by
  refine ⟨fun pins s σ H v u Q I r h => ?_⟩
  rw [ha]
  refine wpAny_bind (wpAny_holding (thn (ho.run pins s σ H _ I h) fun ov s1 ⟨x, H1, I1, r1, q1⟩ => ?_))
  refine wpAny_bind (wpAny_holding ?_)
  refine wpAny_Slice (thn (hl.run pins s1 σ H1 _ I1 q1) fun vl s2 ⟨l, H2, I2, pl, q2⟩ => thn (hh.run pins s2 σ H2 _ I2 q2) fun vu s3 ⟨w, H3, I3, pu, q3⟩ => ?_)
  rw [evalPart_none]
  refine wpAny_pure ?_
  have I4 : Inv X pins σ H3 { s3 with heap := s3.heap.push { cls := .type "slice", data := .fields #[vl, vu, .none] } } := I3.kept (t' := s3.toks) fun b ob q => Heap.get?_push_of_some _ q
  obtain ⟨l', b, xs, ys, a, c, rfl, rfl, rfl, rfl, h1, h2, hne, h3, h4, h5, h6, q⟩ := q3
  cases r1
  cases r
  cases pl
  cases pu
  refine wpAny_bind (wpAny_standAt (wpAny_bind (wpAny_holding (set_slice I4 h1 h2 hne (Heap.IsSliceOf.new ..) ⟨_, rfl⟩ ⟨_, rfl⟩ h3 h4 h5 h6 fun s' I5 => ?_))))
  exact wpAny_release ⟨σ, _, I5, q⟩
@[simp] def splT (fo : Env → MS → Res D) (fl fh : Env → MS → Res (Option Int)) : TF := fun d env ms => (fo env ms).bind fun o ms1 => (fl env ms1).bind fun l ms2 => (fh env ms2).bind fun u ms3 => match o with
  | .ptr n => match d with
    | .lst ys => match l with
      | some a => match u with
        | some c => match ms3[n]? with
          | some (.lst ds) => if 0 ≤ a ∧ a ≤ c ∧ c ≤ ds.length ∧ ds.length + ys.length ≤ LIM then .ok env (ms3.set n (.lst (ds.take a.toNat ++ ys ++ ds.drop c.toNat))) else .bad
          | _ => .bad
        | none => .bad
      | none => .bad
    | _ => .bad
  | _ => .bad
theorem g_spl {fo : Env → MS → Res D} {fl fh : Env → MS → Res (Option Int)} (ho : DE X E o fo) (hl : DO X E (some lo) fl) (hh : DO X E (some hi) fh)
    (ha : ∀ v, assign (.Subscript o (.Slice (some lo) (some hi) none p2) pos) X.env v = (do
      let ov ← holding [v] (eval o X.env)
      let iv ← holding [v, ov] (eval (.Slice (some lo) (some hi) none p2) X.env)
      standAt pos
      holding [v, ov, iv] (setItem ov iv v)
      release [iv, v, ov] []) := by intro _; rfl) : DG X E (.Subscript o (.Slice (some lo) (some hi) none p2) pos) (splT fo fl fh) :=
  PG.conv (pg_spl ho hl hh ha) fun v σ H Q ⟨ι, env, ms, d, r, ev, rd, o⟩ => by
    unfold splT at o
    refine ⟨ι, env, ms, r, ev, ?_⟩
    cases q : fo env ms with
    | bad => simp only [q] at o; exact o
    | exc x ms1 => simp only [q] at o; exact o
    | ok a ms1 =>
      simp only [q, bind_ok] at o
      intro x ι1 H1 r1 l1 ra
      refine ⟨ι1, env, ms1, r1, ev.mono l1, ?_⟩
      cases q2 : fl env ms1 with
      | bad => simp only [q2] at o; exact o
      | exc x ms2 => simp only [q2] at o; exact fun ι2 H2 r2 l2 => o ι2 H2 r2 (l1.trans l2)
      | ok b ms2 =>
        simp only [q2, bind_ok] at o
        intro y ι2 H2 r2 l2 rb
        refine ⟨ι2, env, ms2, r2, ev.mono (l1.trans l2), ?_⟩
        cases q4 : fh env ms2 with
        | bad => simp only [q4] at o; exact o
        | exc x ms3 => simp only [q4] at o; exact fun ι3 H3 r3 l3 => o ι3 H3 r3 ((l1.trans l2).trans l3)
        | ok c ms3 =>
          simp only [q4, bind_ok] at o
          intro z ι3 H3 r3 l3 rc
          have l13 := (l1.trans l2).trans l3
          cases a with
          | ptr n =>
            cases d with
            | lst ys =>
              cases b with
              | some i =>
                cases c with
                | some j =>
                  cases hb : ms3[n]? with
                  | none => simp only [hb] at o; exact o.elim
                  | some c =>
                    cases c with
                    | lst ds =>
                      simp only [hb] at o
                      by_cases hg : 0 ≤ i ∧ i ≤ j ∧ j ≤ ds.length ∧ ds.length + ys.length ≤ LIM
                      · simp only [if_pos hg] at o
                        obtain ⟨p, rfl, hn⟩ := Rp.mono (l2.trans l3) _ _ ra
                        obtain ⟨xs, h1, h2⟩ := r3.ok n p _ hn hb
                        obtain ⟨p2, us, rfl, h3, hno, h4⟩ := Rp.mono l13 _ _ rd
                        have hl2 := h2.length
                        have hl4 := h4.length
                        refine ⟨p, p2, xs, us, i, j, rfl, rfl, rb, rc, h1, h3, fun e => hno.1 (e ▸ List.mem_of_getElem? hn), hg.1, hg.2.1, by rw [hl2]; exact hg.2.2.1, by rw [hl2, hl4, ← lim_eq]; exact hg.2.2.2, ?_⟩
                        have w := Le.write (o := .lst (xs.take i.toNat ++ us ++ xs.drop j.toNat)) r3 hn
                        refine o σ ι3 _ (r3.write hn ⟨_, upd_same, Rps.mono w _ _ (((h2.take _).append h4).append (h2.drop _))⟩) (l13.trans w) ((ev.mono l13).mono w)
                      · simp only [if_neg hg] at o; exact o.elim
                    | _ => simp only [hb] at o; exact o.elim
                | none => exact o.elim
              | none => exact o.elim
            | _ => exact o.elim
          | _ => exact o.elim
end
/-! ### range with a step, reversed(range(n)) -/
def rngNx3 (lo c : Int) (n : Nat) (i : Nat) : WOut := if i < n then .item (.int (lo + i * c)) else .stop
theorem rngNx3_eq (lo c : Int) (n i : Nat) : rngNx3 lo c n i = nxOf (some ((List.range n).map fun (k : Nat) => D.int (lo + k * c))) i := by
  unfold rngNx3 nxOf
  by_cases h : i < n
  · simp [h]
  · rw [if_neg h]
    have : ((List.range n).map fun (k : Nat) => D.int (lo + k * c))[i]? = none := by simp; omega
    simp only [this]
def stepN (i j c : Int) : Nat := if i < j then ((j - i - 1) / c + 1).toNat else 0
@[simp] def rngSrc3 (f g h : Env → MS → Res D) (env : Env) (ms : MS) : Res Src := (f env ms).bind fun d ms1 => (g env ms1).bind fun e ms2 => (h env ms2).bind fun e2 ms3 => match d with
  | .int i => match e with
    | .int j => match e2 with
      | .int c => if -(2 ^ 61) ≤ i ∧ i < 2 ^ 61 ∧ -(2 ^ 61) ≤ j ∧ j < 2 ^ 61 ∧ 0 < c ∧ c < 1073741824 then .ok ⟨[], fun k _ => rngNx3 i c (stepN i j c) k, stepN i j c + 1⟩ ms3 else .bad
      | _ => .bad
    | _ => .bad
  | _ => .bad
@[simp] def revSrc1 (f : Env → MS → Res D) (env : Env) (ms : MS) : Res Src := (f env ms).bind fun d ms1 => match d with
  | .int j => if -(2 ^ 62) ≤ j ∧ j < 2 ^ 62 then .ok ⟨[], fun k _ => rngNx3 (0 + (((j - 0).toNat : Nat) : Int) - 1) (-1) (j - 0).toNat k, (j - 0).toNat + 1⟩ ms1 else .bad
  | _ => .bad
theorem rng3_ok {K : PySem.W.Frag} {lo c : Int} {n m : Nat} : JOk K (Itc lo c n) ⟨[], fun i _ => rngNx3 lo c n i, m⟩ [] := fun ι2 H2 ms2 i R2 rd => by
  show JStep K ι2 H2 ms2 (Itc lo c n) i (rngNx3 lo c n i)
  unfold rngNx3
  by_cases h : i < n
  · rw [if_pos h]
    refine ⟨h, fun x H' hy => ?_⟩
    obtain ⟨rfl, rfl⟩ := hy
    exact ⟨R2, .refl, rfl⟩
  · rw [if_neg h]
    exact Nat.le_of_not_lt h
theorem rgC_of {i j c : Int} (h : -(2 ^ 61) ≤ i ∧ i < 2 ^ 61 ∧ -(2 ^ 61) ≤ j ∧ j < 2 ^ 61 ∧ 0 < c ∧ c < 1073741824) : RgC i j c (stepN i j c) := by
  obtain ⟨h1, h2, h3, h4, h5, h6⟩ := h
  have hs : Builtin.Range.rangeSize i j c = stepN i j c := by
    unfold Builtin.Range.rangeSize stepN
    rw [if_pos h5]
    by_cases hij : i < j
    · rw [if_pos hij, if_pos hij]
      have : 0 ≤ (j - i - 1) / c := Int.ediv_nonneg (by omega) (by omega)
      omega
    · rw [if_neg hij, if_neg hij]
      rfl
  refine ⟨by omega, by omega, ?_, hs⟩
  unfold Builtin.Range.small Builtin.Range.rangeFitsLong
  rw [hs]
  have hb : (stepN i j c : Int) ≤ 2 ^ 62 := by
    unfold stepN
    by_cases hij : i < j
    · rw [if_pos hij]
      have h0 : 0 ≤ (j - i - 1) / c := Int.ediv_nonneg (by omega) (by omega)
      have h7 : (j - i - 1) / c ≤ j - i - 1 := Int.ediv_le_self _ (by omega)
      omega
    · rw [if_neg hij]
      decide
  rw [if_pos h5]
  simp only [Bool.and_eq_true, Bool.or_eq_true, decide_eq_true_eq]
  omega
section
variable {X : Cx} {E : EW} {tg a b c : Expr} {f g h : Env → MS → Res D} {p pos p2 pos2 : Pos}
theorem i_rng3 (hg : Gl X "range") (hm : X.mg "range" = none) (ha : DE X E a f) (hb : DE X E b g) (hc : DE X E c h)
    (hs : starEach [a, b, c] X.env = (false, eval a X.env) :: starEach [b, c] X.env := by rfl) (hs2 : starEach [b, c] X.env = (false, eval b X.env) :: starEach [c] X.env := by rfl) (hs3 : starEach [c] X.env = (false, eval c X.env) :: starEach [] X.env := by rfl)
    (hpl : (backTo pos (starEach [b, c] X.env)).any (·.1) = false := by rfl) : DI X E tg (.Call (.Name "range" p) [a, b, c] [] pos) (rngSrc3 f g h) :=
  PI.conv (pi_range3 hg hm (a_cons ha (a_cons hb (a_cons hc a_nil hs3) hs2) hs) hs hpl) fun σ H R ⟨ι, env, ms, r, ev, o⟩ => by
    refine ⟨ι, env, ms, r, ev, ?_⟩
    unfold rngSrc3 at o
    unfold consA
    cases q : f env ms with
    | bad => rw [q] at o; exact o
    | exc x ms1 => rw [q] at o; exact o
    | ok d ms1 =>
      simp only [q, bind_ok] at o
      simp only [bind_ok]
      cases q2 : g env ms1 with
      | bad => rw [q2] at o; exact o
      | exc x ms2 => rw [q2] at o; exact o
      | ok e ms2 =>
        simp only [q2, bind_ok] at o
        simp only [bind_ok]
        cases q3 : h env ms2 with
        | bad => rw [q3] at o; exact o
        | exc x ms3 => rw [q3] at o; exact o
        | ok e2 ms3 =>
          simp only [q3, bind_ok] at o
          simp only [bind_ok, nilA]
          intro vs ι1 H1 R1 l1 rv
          obtain ⟨v, _, rfl, rd, rv⟩ := rv
          obtain ⟨v2, _, rfl, re, rv⟩ := rv
          obtain ⟨v3, rfl, re2⟩ := rv.one
          cases d with
          | int i =>
            cases e with
            | int j =>
              cases e2 with
              | int k =>
                by_cases hh : -(2 ^ 61) ≤ i ∧ i < 2 ^ 61 ∧ -(2 ^ 61) ≤ j ∧ j < 2 ^ 61 ∧ 0 < k ∧ k < 1073741824
                · simp only [if_pos hh] at o
                  cases rd
                  cases re
                  cases re2
                  exact ⟨i, j, k, _, rfl, rgC_of hh, o _ ι1 H1 [] R1 l1 rfl rng3_ok⟩
                · simp only [if_neg hh] at o; exact o.elim
              | _ => exact o.elim
            | _ => exact o.elim
          | _ => exact o.elim
theorem i_rev1 (hg : Gl X "reversed") (hm : X.mg "reversed" = none) (hg2 : Gl X "range") (hm2 : X.mg "range" = none) (ha : DE X E a f)
    (hs : starEach [.Call (.Name "range" p) [a] [] pos] X.env = (false, eval (.Call (.Name "range" p) [a] [] pos) X.env) :: starEach [] X.env := by rfl) (hs2 : starEach [a] X.env = (false, eval a X.env) :: starEach [] X.env := by rfl) :
    DI X E tg (.Call (.Name "reversed" p2) [.Call (.Name "range" p) [a] [] pos] [] pos2) (revSrc1 f) :=
  PI.conv (pi_revR hg hm (prg_1 hg2 hm2 ha hs2) hs) fun σ H R ⟨ι, env, ms, r, ev, o⟩ => tR_seqI r ev o fun ι1 H1 ms1 d x B o1 => by
    cases d with
    | int j =>
      by_cases hh : -(2 ^ 62) ≤ j ∧ j < 2 ^ 62
      · simp only [if_pos hh] at o1
        exact ⟨j, B.r, by decide, by decide, hh.1, hh.2, o1 _ ι1 H1 [] B.rel .refl rfl rng3_ok⟩
      · simp only [if_neg hh] at o1; exact o1.elim
    | _ => exact o1.elim
end
/-! ### isinstance(x, (T, U)), tuple(xs), max(ns) -/
@[simp] def is2P (t u : Ty) (d : D) (ms : MS) : Res D := match isTy ms d t with
  | some b => match isTy ms d u with
    | some c => .ok (.bl (b || c)) ms
    | none => .bad
  | none => .bad
theorem tyx_all {K : PySem.W.Frag} {ι : Ct} {H : Hp} {ms : MS} (R : Rel K ι H ms) {d : D} {v : V} {t0 : Ty} {b0 : Bool} (e0 : isTy ms d t0 = some b0) (r : Rp K ι H d v) : ∃ a : String, TyX K H v (.type a) ∧ ∀ (t : Ty) (b : Bool), isTy ms d t = some b → kitB a t.nm = some b := by
  have lst : ∀ (p : Addr) (xs : List V), SqL K H p xs → TyX K H (.ref p) (.type "list") := fun p xs hq => by
    rcases hq with (hq | ⟨o, hq⟩) | ⟨o, its, n, hk, hc, _⟩
    · exact .base (.lst hq)
    · exact .base (.frz hq)
    · exact .kList hk hc
  cases d with
  | non => cases r; exact ⟨"NoneType", .base .non, fun t b e => by cases e; cases t <;> decide +kernel⟩
  | bl k => cases r; exact ⟨"bool", .base (.bl k), fun t b e => by cases e; cases t <;> decide +kernel⟩
  | int k => cases r; exact ⟨"int", .base (.int k), fun t b e => by cases e; cases t <;> decide +kernel⟩
  | str k => cases r; exact ⟨"str", .base (.str k), fun t b e => by cases e; cases t <;> decide +kernel⟩
  | tup ds =>
    obtain ⟨p, xs, rfl, hq, _⟩ := r
    refine ⟨"tuple", ?_, fun t b e => by cases e; cases t <;> decide +kernel⟩
    rcases hq with (hq | ⟨o, hq⟩) | ⟨o, its, n, hk, hc, _⟩
    · exact .base (.tup hq)
    · exact .fTuple hq
    · exact .kTuple hk hc
  | lst ds => obtain ⟨p, xs, rfl, rs, hq⟩ := R.rl (d := .lst ds) rfl r; exact ⟨"list", lst p xs hq, fun t b e => by cases e; cases t <;> decide +kernel⟩
  | ro ds => obtain ⟨p, xs, rfl, rs, hq⟩ := R.rl (d := .ro ds) rfl r; exact ⟨"list", lst p xs hq, fun t b e => by cases e; cases t <;> decide +kernel⟩
  | ptr n =>
    unfold isTy at e0
    cases q : ms[n]? with
    | none => simp only [q] at e0; cases e0
    | some c =>
      cases c with
      | lst ds =>
        obtain ⟨p, xs, rfl, rs, hq⟩ := R.rl (d := .ptr n) (ds := ds) (by unfold rlOf; simp only [q]) r
        refine ⟨"list", lst p xs hq, fun t b e => ?_⟩
        unfold isTy at e
        simp only [q] at e
        cases e
        cases t <;> decide +kernel
      | _ => simp only [q] at e0; cases e0
section
variable {X : Cx} {E : EW} {a : Expr} {f : Env → MS → Res D} {p p2 pos : Pos}
theorem d_is2 (t u : Ty) {T U : Expr} {x1 : Nat} (hg : Gl X "isinstance") (hm : X.mg "isinstance" = none) (hT : PE X T (tC (.ty t.nm))) (hU : PE X U (tC (.ty u.nm))) (ha : DE X E a f)
    (he : starEach [a, .Tuple [T, U] x1 p2] X.env = (false, eval a X.env) :: starEach [.Tuple [T, U] x1 p2] X.env := by rfl) (he2 : starEach [.Tuple [T, U] x1 p2] X.env = (false, eval (.Tuple [T, U] x1 p2) X.env) :: starEach [] X.env := by rfl)
    (he3 : starEach [T, U] X.env = (false, eval T X.env) :: starEach [U] X.env := by rfl) (he4 : starEach [U] X.env = (false, eval U X.env) :: starEach [] X.env := by rfl)
    (hpl : (backTo pos (starEach [.Tuple [T, U] x1 p2] X.env)).any (·.1) = false := by rfl) :
    DE X E (.Call (.Name "isinstance" p) [a, .Tuple [T, U] x1 p2] [] pos) (unE f (is2P t u)) :=
  PE.conv (pe_callB call_isiT hg hm boot_isi (pa_cons ha (pa_cons (pe_tup (pa_cons hT (pa_cons hU pa_nil he4) he3)) pa_nil he2) he) (by decide) (by decide) he hpl) fun σ H Q ⟨ι, env, ms, r, ev, o⟩ => tR_seq r ev o fun ι1 H1 ms1 d x B o1 => by
    unfold is2P at o1
    cases q : isTy ms1 d t with
    | none => rw [q] at o1; exact o1.elim
    | some b =>
      cases q2 : isTy ms1 d u with
      | none => simp only [q, q2] at o1; exact o1.elim
      | some c =>
        simp only [q, q2] at o1
        refine ⟨by rw [sizeLine_eq]; simp, fun tp hp => ?_⟩
        have l := Le.new (o := .tup [V.ty t.nm, V.ty u.nm]) B.rel hp
        have R2 := B.rel.new (o := .tup [V.ty t.nm, V.ty u.nm]) hp
        have r2 := Rp.mono l _ _ B.r
        obtain ⟨n, h1, hall⟩ := tyx_all R2 q r2
        have h2 := hall t b q
        have h4 := hall u c q2
        refine ⟨x, tp, _, .type n, [.type t.nm, .type u.nm], b || c, rfl, upd_same, .cons (.ty _) (.cons (.ty _) .nil), h1, ?_, o1 _ ι1 _ R2 l rfl⟩
        refine kitAny_cons (kit_ty h2) (fun hb => ?_) (fun hb => by rw [hb]; rfl)
        rw [hb, Bool.false_or]
        exact kitAny_cons (kit_ty h4) (fun hc => by rw [hc]; exact kitAny_nil) (fun hc => hc)
end

@[simp] def tupP (ds : List D) (ms : MS) : Res D := match ds with
  | [.tup xs] => .ok (.tup xs) ms
  | [d] => match rlOf ms d with
    | some xs => .ok (.tup xs) ms
    | none => .bad
  | _ => .bad
@[simp] def min2P (ds : List D) (ms : MS) : Res D := match ds with
  | [.int i, .int j] => .ok (.int (if j < i then j else i)) ms
  | _ => .bad
@[simp] def maxP : List D → MS → Res D := lst1 intsOf fun ns ms => match ns.max? with
  | some m => .ok (.int m) ms
  | none => .bad
section
variable {K : PySem.W.Frag} {E : EW}
theorem p_min2 : PC1 K E (fun xs H Q => ∃ i j, xs = [.int i, .int j] ∧ Q (.int (if j < i then j else i)) H) min2P := by
  intro ι H ms ds vs Q R r o
  by_cases h : ∃ i j, ds = [.int i, .int j]
  · obtain ⟨i, j, rfl⟩ := h
    obtain ⟨v, _, rfl, h1, h2⟩ := r
    obtain ⟨v2, rfl, h3⟩ := h2.one
    cases h1
    cases h3
    exact ⟨i, j, rfl, o _ ι H R .refl rfl⟩
  · have : min2P ds ms = .bad := by
      unfold min2P
      split
      · exact (h ⟨_, _, rfl⟩).elim
      · rfl
    rw [this] at o
    exact o.elim
theorem p_tupOf : PC1 K E (fun xs H Q => ∃ p ys, xs = [.ref p] ∧ ((SqL K H p ys ∧ ∀ l, H l = none → Q (.ref l) (upd H l (.tup ys))) ∨ (SqT K H p ys ∧ Q (.ref p) H))) tupP := by
  intro ι H ms ds vs Q R r o
  match ds, r, o with
  | [], r, o => exact o.elim
  | d :: _ :: _, r, o => cases d <;> exact o.elim
  | [d], r, o =>
    obtain ⟨v, rfl, rd⟩ := r.one
    by_cases hs : ∃ z, d = .tup z
    · obtain ⟨z, rfl⟩ := hs
      obtain ⟨p, xs, rfl, hq, rs⟩ := rd
      exact ⟨p, xs, rfl, .inr ⟨hq, o _ ι H R .refl ⟨p, xs, rfl, hq, rs⟩⟩⟩
    · have o' : Out K E (Rp K) ι H (match rlOf ms d with | some xs => .ok (.tup xs) ms | none => .bad) Q := by
        cases d with
        | tup z => exact (hs ⟨z, rfl⟩).elim
        | _ => exact o
      cases e : rlOf ms d with
      | none => rw [e] at o'; exact o'.elim
      | some xs =>
        rw [e] at o'
        obtain ⟨p, ys, rfl, rs, hq⟩ := R.rl e rd
        refine ⟨p, ys, rfl, .inl ⟨hq, fun l hl => ?_⟩⟩
        exact o' _ ι _ (R.new hl) (Le.new R hl) ⟨l, ys, rfl, SqT.of upd_same, Rps.mono (Le.new R hl) _ _ rs⟩
theorem p_max : PC1 K E (rMax K) maxP := fun ι H ms ds vs Q R r o => by
  obtain ⟨a, xs, es, bs, rfl, hq, rs, e, o'⟩ := lst1_ok R r o
  rw [intsOf_eq e] at rs
  rw [rs.ints] at hq
  cases hm : bs.max? with
  | none => simp only [hm] at o'; exact o'.elim
  | some m =>
    simp only [hm] at o'
    have h1 := List.max?_mem hm
    refine ⟨a, bs, rfl, hq, List.length_pos_of_mem h1, fun m' hm' hle => ?_⟩
    have h2 : m' ≤ m := by
      have := (List.max?_eq_some_iff.mp hm).2 m' hm'
      exact this
    have h3 := hle m h1
    have e : m' = m := by omega
    subst e
    exact o' _ ι H R .refl rfl
theorem gtup {p : Addr} {dd : Option Addr} {us : Array Value} {n : Nat} {sl : Array (Option Value)} (ss : List Str) (h : K.lookup p = some ⟨.type "tuple", dd, .seq us n, sl⟩) (hz : us.size ≤ sizeLine) (hv : Vals (ss.map V.str) us.toList) (ι : Ct) (H : Hp) : Rp K ι H (.tup (ss.map D.str)) (.ref p) := by
  have rs : ∀ ss : List Str, Rps K ι H (ss.map D.str) (ss.map V.str) := fun ss => by
    induction ss with
    | nil => rfl
    | cons a t ih => exact ⟨_, _, rfl, rfl, ih⟩
  exact ⟨p, _, rfl, .inr ⟨_, us, n, h, rfl, rfl, hz, hv⟩, rs ss⟩
end
end DL

set_option maxHeartbeats 1000000
namespace DL
open PySem PySem.Spec L2
open PyProof.Rows hiding St

/-! ### data without places -/
mutual
def purD : D → Bool
  | .tup ds => purDs ds
  | .lst ds => purDs ds
  | .ro ds => purDs ds
  | .ptr _ => false
  | _ => true
def purDs : List D → Bool
  | [] => true
  | d :: ds => purD d && purDs ds
end
mutual
theorem frz_pur {b : Nat} {ms : MS} : ∀ d : D, purD d = true → frz b ms d = some d
  | .non, _ => rfl
  | .bl _, _ => rfl
  | .int _, _ => rfl
  | .str _, _ => rfl
  | .tup ds, h => by unfold frz; rw [frzs_pur ds h]; rfl
  | .lst ds, h => by unfold frz; rw [frzs_pur ds h]; rfl
  | .ro ds, h => by unfold frz; rw [frzs_pur ds h]; rfl
  | .ptr _, h => by cases h
theorem frzs_pur {b : Nat} {ms : MS} : ∀ ds : List D, purDs ds = true → frzs b ms ds = some ds
  | [], _ => rfl
  | d :: ds, h => by
    have h' : (purD d && purDs ds) = true := h
    rw [Bool.and_eq_true] at h'
    unfold frzs
    rw [frz_pur d h'.1, frzs_pur ds h'.2]
end
mutual
theorem low_pur {b : Nat} : ∀ d : D, purD d = true → lowD b d = true
  | .non, _ => rfl
  | .bl _, _ => rfl
  | .int _, _ => rfl
  | .str _, _ => rfl
  | .tup ds, h => lows_pur ds h
  | .lst ds, h => lows_pur ds h
  | .ro ds, h => lows_pur ds h
  | .ptr _, h => by cases h
theorem lows_pur {b : Nat} : ∀ ds : List D, purDs ds = true → lowDs b ds = true
  | [], _ => rfl
  | d :: ds, h => by
    have h' : (purD d && purDs ds) = true := h
    rw [Bool.and_eq_true] at h'
    show (lowD b d && lowDs b ds) = true
    rw [low_pur d h'.1, lows_pur ds h'.2]
    rfl
end
theorem purDs_iff {ds : List D} : purDs ds = true ↔ ∀ d ∈ ds, purD d = true := by
  induction ds with
  | nil => exact ⟨fun _ _ h => (by cases h), fun _ => rfl⟩
  | cons d ds ih =>
    show (purD d && purDs ds) = true ↔ _
    rw [Bool.and_eq_true, ih]
    simp
/-- a def whose cells are thrown away at its end -/
theorem runT_ok {N : Nat} {B : SF} {args : List D} {ms : MS} {Q : D → MS → Prop} (h : OK (runF N B args ms) fun d ms1 => ∃ d', frz ms.length ms1 d = some d' ∧ Tidy ms.length ms ms1 ∧ Q d' (ms1.take ms.length)) : OK (runT N B args ms) Q := by
  obtain ⟨d, ms1, e, d', h1, h2, h3⟩ := h
  refine ⟨d', ms1.take ms.length, ?_, h3⟩
  unfold runT
  rw [e]
  simp only [bind_ok, h1, if_pos h2]
/-! ### while by a measure -/
theorem while_inv {t : Env → MS → Res Bool} {B : SF} (I : Nat → Env → MS → Prop) (P : Env → MS → Prop) (R : D → MS → Prop)
    (hs : ∀ n env ms, I n env ms → OK (t env ms) fun b ms1 => if b = true then OK (B env ms1) (fun a ms2 => match a.1 with | .nx => ∃ m, m + 1 = n ∧ I m a.2 ms2 | .cont => ∃ m, m + 1 = n ∧ I m a.2 ms2 | .brk => P a.2 ms2 | .ret d => R d ms2) else P env ms1) :
    ∀ (k n : Nat) (env : Env) (ms : MS), n < k → I n env ms → OK (whileLoop t B k env ms) fun a ms' => match a.1 with | .nx => P a.2 ms' | .ret d => R d ms' | _ => False
  | 0, n, env, ms, h, _ => absurd h (by omega)
  | k + 1, n, env, ms, h, hI => by
    unfold whileLoop
    refine OK.bind (hs n env ms hI) fun b ms1 hb => ?_
    cases b with
    | false => exact OK.pure hb
    | true =>
      simp only [if_true] at hb
      simp only [if_true]
      refine OK.bind hb fun a ms2 h2 => ?_
      obtain ⟨fl, env1⟩ := a
      cases fl with
      | nx =>
        obtain ⟨m, hm, h3⟩ := h2
        exact while_inv I P R hs k m env1 ms2 (by omega) h3
      | cont =>
        obtain ⟨m, hm, h3⟩ := h2
        exact while_inv I P R hs k m env1 ms2 (by omega) h3
      | brk => exact OK.pure h2
      | ret d => exact OK.pure h2

/-! ### statements by their parts -/
section
variable {A B : SF} {env : Env} {ms : MS} {f : Env → MS → Res D} {t : Env → MS → Res Bool} {Q : (Fl × Env) → MS → Prop}
theorem seq_ok (P : Env → MS → Prop) (hA : OK (A env ms) fun a m => a.1 = .nx ∧ P a.2 m) (hB : ∀ e m, P e m → OK (B e m) Q) : OK (seqS A B env ms) Q := by
  unfold seqS
  refine OK.bind hA fun a m h => ?_
  obtain ⟨fl, e⟩ := a
  obtain ⟨h1, h2⟩ := h
  have h1' : fl = .nx := h1
  subst h1'
  exact hB e m h2
theorem comp_ok {mk : List D → MS → Res D} {g : Env → MS → Res Src} {T : TF} {vs : List Nat} {R : D → MS → Prop} (P : Src → MS → Prop) (hg : OK (g env ms) P) (h : ∀ s m, P s m → OK (compLoop s.nx (stepOf T t f (wipeE env vs)) s.n 0 [] m) fun acc m' => OK (mk acc m') R) : OK (compE mk g T t f vs env ms) R := by
  unfold compE
  exact OK.bind hg fun s m hs => OK.bind (OK.noExc (h s m hs)) fun acc m' h' => h'
theorem for_ok {g : Env → MS → Res Src} {T : TF} (P : Src → MS → Prop) (hg : OK (g env ms) P) (h : ∀ s m, P s m → OK (forLoop s.nx (turnOf T B) s.n 0 env m) Q) : OK (forS g T B env ms) Q := by
  unfold forS
  exact OK.bind hg h
theorem set_ok {i : Nat} (h : OK (f env ms) fun d m => Q (.nx, env.set i (some d)) m) : OK (setS i f env ms) Q := by
  unfold setS
  exact OK.bind h fun d m q => OK.pure q
theorem turn_name {i : Nat} {x : D} (h : OK (B (env.set i (some x)) ms) Q) : OK (turnOf (nameT i) B x env ms) Q := h
end
theorem run_ok {N : Nat} {B : SF} {args : List D} {ms : MS} {Q : D → MS → Prop} (h : OK (B (envAt N args) ms) fun a m => match a with | (.nx, _) => Q .non m | (.ret d, _) => Q d m | _ => False) : OK (runF N B args ms) Q := by
  unfold runF
  refine OK.bind h fun a m q => ?_
  obtain ⟨fl, e⟩ := a
  cases fl with
  | nx => exact OK.pure q
  | ret d => exact OK.pure q
  | brk => exact q.elim
  | cont => exact q.elim

/-! ### words -/
inductive Wd where
  | nm (x : Str) | bk (x : Str) | any | ab | em | no
  | th (a b : Wd) | or (a b : Wd) | ag (a : Wd) | mo (a : Wd) | mb (a : Wd)
namespace Wd
@[simp] def toD : Wd → D
  | nm x => .tup [.str "name", .str x]
  | bk x => .tup [.str "back", .str x]
  | any => .tup [.str "any"]
  | ab => .tup [.str "anyback"]
  | em => .tup [.str "empty"]
  | no => .tup [.str "none"]
  | th a b => .tup [.str "then", a.toD, b.toD]
  | or a b => .tup [.str "or", a.toD, b.toD]
  | ag a => .tup [.str "again", a.toD]
  | mo a => .tup [.str "more", a.toD]
  | mb a => .tup [.str "maybe", a.toD]
def dep : Wd → Nat
  | th a b => 1 + max a.dep b.dep
  | or a b => 1 + max a.dep b.dep
  | ag a => 1 + a.dep
  | mo a => 1 + a.dep
  | mb a => 1 + a.dep
  | _ => 1
def size : Wd → Nat
  | th a b => a.size + b.size
  | or a b => a.size + b.size
  | ag a => a.size
  | mo a => a.size
  | mb a => a.size
  | _ => 1
/-- the names of the word keep to P -/
def all (P : Str → Prop) : Wd → Prop
  | nm x => P x
  | bk x => P x
  | th a b => a.all P ∧ b.all P
  | or a b => a.all P ∧ b.all P
  | ag a => a.all P
  | mo a => a.all P
  | mb a => a.all P
  | _ => True
theorem size_pos : ∀ w : Wd, 1 ≤ w.size
  | th a b => by have := size_pos a; show 1 ≤ a.size + b.size; omega
  | or a b => by have := size_pos a; show 1 ≤ a.size + b.size; omega
  | ag a => size_pos a
  | mo a => size_pos a
  | mb a => size_pos a
  | nm _ => Nat.le_refl _
  | bk _ => Nat.le_refl _
  | any => Nat.le_refl _
  | ab => Nat.le_refl _
  | em => Nat.le_refl _
  | no => Nat.le_refl _
theorem dep_pos : ∀ w : Wd, 1 ≤ w.dep := by
  intro w
  cases w <;> unfold dep <;> omega
theorem pur : ∀ w : Wd, purD w.toD = true
  | th a b => by show (true && (purD a.toD && (purD b.toD && true))) = true; rw [pur a, pur b]; rfl
  | or a b => by show (true && (purD a.toD && (purD b.toD && true))) = true; rw [pur a, pur b]; rfl
  | ag a => by show (true && (purD a.toD && true)) = true; rw [pur a]; rfl
  | mo a => by show (true && (purD a.toD && true)) = true; rw [pur a]; rfl
  | mb a => by show (true && (purD a.toD && true)) = true; rw [pur a]; rfl
  | nm _ => rfl
  | bk _ => rfl
  | any => rfl
  | ab => rfl
  | em => rfl
  | no => rfl
end Wd
end DL

set_option maxHeartbeats 1000000
namespace DL
open PySem PySem.Spec L2
open PyProof.Rows hiding St

/-! ### dicts with numbers and texts as keys -/
@[simp] def keyOf : D → Option Key
  | .int i => some (.inl i)
  | .str x => some (.inr x)
  | _ => none
def valD (kvs : List (Key × D)) (k : Key) : Option D := (kvs.find? fun kv => decide (kv.1 = k)).map (·.2)
def putD (kvs : List (Key × D)) (k : Key) (d : D) : List (Key × D) := if (valD kvs k).isSome = true then kvs.map (fun kv => if kv.1 = k then (kv.1, d) else kv) else kvs ++ [(k, d)]
def dropD (kvs : List (Key × D)) (k : Key) : List (Key × D) := kvs.filter fun kv => decide (kv.1 ≠ k)
/-- a dict of data stands for one of values -/
structure KD (K : PySem.W.Frag) (ι : Ct) (H : Hp) (fs : List (Key × D)) (vs : List (Key × V)) : Prop where
  ks : vs.map (·.1) = fs.map (·.1)
  rs : Rps K ι H (fs.map (·.2)) (vs.map (·.2))
section
variable {K : PySem.W.Frag} {ι ι' : Ct} {H H' : Hp} {ms : MS}
theorem KD.nil : KD K ι H [] [] := ⟨rfl, rfl⟩
theorem KD.uncons {p : Key × D} {fs : List (Key × D)} {vs : List (Key × V)} (h : KD K ι H (p :: fs) vs) : ∃ v r, vs = (p.1, v) :: r ∧ Rp K ι H p.2 v ∧ KD K ι H fs r := by
  obtain ⟨h1, h2⟩ := h
  cases vs with
  | nil => simp at h1
  | cons q r =>
    obtain ⟨w, us, e, a, b⟩ := h2
    simp only [List.map_cons, List.cons.injEq] at h1 e
    obtain ⟨e1, e2⟩ := e
    refine ⟨q.2, r, ?_, e1 ▸ a, h1.2, e2 ▸ b⟩
    rw [← h1.1]
theorem KD.cons {k : Key} {d : D} {v : V} {fs : List (Key × D)} {vs : List (Key × V)} (a : Rp K ι H d v) (h : KD K ι H fs vs) : KD K ι H ((k, d) :: fs) ((k, v) :: vs) :=
  ⟨by simp [h.ks], ⟨v, _, rfl, a, h.rs⟩⟩
theorem KD.mono (l : Le ι H ι' H') {fs : List (Key × D)} {vs : List (Key × V)} (h : KD K ι H fs vs) : KD K ι' H' fs vs := ⟨h.ks, Rps.mono l _ _ h.rs⟩
theorem KD.len {fs : List (Key × D)} {vs : List (Key × V)} (h : KD K ι H fs vs) : vs.length = fs.length := by
  have := congrArg List.length h.ks
  simpa using this
theorem KD.val {k : Key} : ∀ {fs : List (Key × D)} {vs : List (Key × V)}, KD K ι H fs vs → (∀ d, valD fs k = some d → ∃ v, valV vs k = some v ∧ Rp K ι H d v) ∧ (valD fs k = none → valV vs k = none)
  | [], vs, h => by
    have : vs = [] := by have := h.len; exact List.length_eq_zero_iff.mp this
    subst this
    exact ⟨fun d e => (by cases e), fun _ => rfl⟩
  | p :: fs, vs, h => by
    obtain ⟨v, r, rfl, a, h'⟩ := h.uncons
    by_cases e : p.1 = k
    · have e1 : valD (p :: fs) k = some p.2 := by simp [valD, List.find?_cons, e]
      have e2 : valV ((p.1, v) :: r) k = some v := valV_pos e
      exact ⟨fun d q => by rw [e1] at q; cases q; exact ⟨v, e2, a⟩, fun q => by rw [e1] at q; cases q⟩
    · have e1 : valD (p :: fs) k = valD fs k := by simp [valD, List.find?_cons, e]
      have e2 : valV ((p.1, v) :: r) k = valV r k := valV_neg e
      rw [e1, e2]
      exact KD.val h'
theorem KD.some_eq {k : Key} {fs : List (Key × D)} {vs : List (Key × V)} (h : KD K ι H fs vs) : (valV vs k).isSome = (valD fs k).isSome := by
  cases q : valD fs k with
  | none => rw [h.val.2 q]; rfl
  | some d => obtain ⟨v, e, _⟩ := h.val.1 d q; rw [e]; rfl
theorem KD.app {fs gs : List (Key × D)} {vs us : List (Key × V)} (h : KD K ι H fs vs) (h' : KD K ι H gs us) : KD K ι H (fs ++ gs) (vs ++ us) :=
  ⟨by rw [List.map_append, List.map_append, h.ks, h'.ks], by rw [List.map_append, List.map_append]; exact h.rs.append h'.rs⟩
theorem KD.repl {k : Key} {d : D} {v : V} (a : Rp K ι H d v) : ∀ {fs : List (Key × D)} {vs : List (Key × V)}, KD K ι H fs vs → KD K ι H (fs.map fun kv => if kv.1 = k then (kv.1, d) else kv) (vs.map fun kv => if kv.1 = k then (kv.1, v) else kv)
  | [], vs, h => by
    have : vs = [] := List.length_eq_zero_iff.mp h.len
    subst this
    exact .nil
  | p :: fs, vs, h => by
    obtain ⟨w, r, rfl, b, h'⟩ := h.uncons
    rw [List.map_cons, List.map_cons]
    by_cases e : p.1 = k
    · rw [if_pos e, if_pos e]
      exact KD.cons a (KD.repl a h')
    · rw [if_neg e, if_neg e]
      exact KD.cons (k := p.1) (d := p.2) b (KD.repl a h')
theorem KD.put {k : Key} {d : D} {v : V} {fs : List (Key × D)} {vs : List (Key × V)} (h : KD K ι H fs vs) (a : Rp K ι H d v) : KD K ι H (putD fs k d) (putK vs k v) := by
  unfold putD putK
  have e : (vs.any fun kv => decide (kv.1 = k)) = (valD fs k).isSome := by rw [valV_any, h.some_eq]
  rw [e]
  by_cases q : (valD fs k).isSome = true
  · rw [if_pos q, if_pos q]; exact h.repl a
  · rw [if_neg q, if_neg q]; exact h.app (KD.cons a .nil)
theorem KD.drop {k : Key} : ∀ {fs : List (Key × D)} {vs : List (Key × V)}, KD K ι H fs vs → KD K ι H (dropD fs k) (dropK vs k)
  | [], vs, h => by
    have : vs = [] := List.length_eq_zero_iff.mp h.len
    subst this
    exact .nil
  | p :: fs, vs, h => by
    obtain ⟨w, r, rfl, b, h'⟩ := h.uncons
    unfold dropD dropK
    rw [List.filter_cons, List.filter_cons]
    by_cases e : p.1 = k
    · rw [if_neg (by simp [e]), if_neg (by simp [e])]
      exact KD.drop h'
    · rw [if_pos (by simp [e]), if_pos (by simp [e])]
      exact KD.cons (k := p.1) (d := p.2) b (KD.drop h')
@[simp] def cellK (ms : MS) (o : D) : Option (Nat × List (Key × D)) := match o with
  | .ptr n => match ms[n]? with
    | some (.dK kvs) => some (n, kvs)
    | _ => none
  | _ => none
theorem Rel.cellK (R : Rel K ι H ms) {d : D} {n : Nat} {fs : List (Key × D)} {v : V} (e : cellK ms d = some (n, fs)) (h : Rp K ι H d v) : ∃ p vs, v = .ref p ∧ ι.a[n]? = some p ∧ H p = some (.dK vs) ∧ KD K ι H fs vs := by
  cases d with
  | ptr m =>
    unfold DL.cellK at e
    cases q : ms[m]? with
    | none => simp only [q] at e; cases e
    | some c =>
      cases c with
      | dK kvs =>
        simp only [q] at e
        cases e
        obtain ⟨p, rfl, hn⟩ := h
        obtain ⟨vs, h1, h2, h3⟩ := R.ok _ p _ hn q
        exact ⟨p, vs, rfl, hn, h1, h2, h3⟩
      | _ => simp only [q] at e; cases e
  | _ => cases e
theorem key_v {d : D} {k : Key} {v : V} (e : keyOf d = some k) (h : Rp K ι H d v) : v = kV k := by
  cases d with
  | int i => cases e; exact h
  | str x => cases e; exact h
  | _ => cases e
end

/-! ### d[k], k in d, d[k] = v, del d[k], d.get(k), d.get(k, x) -/
@[simp] def dgetE (fo fi : Env → MS → Res D) (env : Env) (ms : MS) : Res D := (fo env ms).bind fun o ms1 => (fi env ms1).bind fun i ms2 => match cellK ms2 o with
  | some (_, fs) => optR ((keyOf i).bind fun k => valD fs k) ms2
  | none => .bad
@[simp] def dinE (neg : Bool) (fi fo : Env → MS → Res D) (env : Env) (ms : MS) : Res D := (fi env ms).bind fun i ms1 => (fo env ms1).bind fun o ms2 => match cellK ms2 o with
  | some (_, fs) => match keyOf i with
    | some k => .ok (.bl (if neg then !(valD fs k).isSome else (valD fs k).isSome)) ms2
    | none => .bad
  | none => .bad
@[simp] def dputS (fv fo fi : Env → MS → Res D) : SF := fun env ms => (fv env ms).bind fun v ms1 => (fo env ms1).bind fun o ms2 => (fi env ms2).bind fun i ms3 => match cellK ms3 o with
  | some (n, fs) => match keyOf i with
    | some k => if fs.length < LIM then .ok (.nx, env) (ms3.set n (.dK (putD fs k v))) else .bad
    | none => .bad
  | none => .bad
@[simp] def ddelS (fo fi : Env → MS → Res D) : SF := fun env ms => (fo env ms).bind fun o ms1 => (fi env ms1).bind fun i ms2 => match cellK ms2 o with
  | some (n, fs) => match keyOf i with
    | some k => if (valD fs k).isSome = true then .ok (.nx, env) (ms2.set n (.dK (dropD fs k))) else .bad
    | none => .bad
  | none => .bad
@[simp] def get1E (fo fi : Env → MS → Res D) (env : Env) (ms : MS) : Res D := (fo env ms).bind fun o ms1 => match cellK ms1 o with
  | none => .bad
  | some _ => (fi env ms1).bind fun i ms2 => match cellK ms2 o with
    | some (_, fs) => match keyOf i with
      | some k => .ok ((valD fs k).getD .non) ms2
      | none => .bad
    | none => .bad
@[simp] def get2E (fo fi fx : Env → MS → Res D) (env : Env) (ms : MS) : Res D := (fo env ms).bind fun o ms1 => match cellK ms1 o with
  | none => .bad
  | some _ => (fi env ms1).bind fun i ms2 => (fx env ms2).bind fun x ms3 => match cellK ms3 o with
    | some (_, fs) => match keyOf i with
      | some k => .ok ((valD fs k).getD x) ms3
      | none => .bad
    | none => .bad
section
variable {X : Cx} {E : EW} {o i e value : Expr} {fo fi fv fx : Env → MS → Res D} {pos pos' tpos apos : Pos}
theorem KD.dget {K : PySem.W.Frag} {ι : Ct} {H : Hp} {fs : List (Key × D)} {vs : List (Key × V)} {p : Addr} {k : Key} (h : KD K ι H fs vs) (e : H p = some (.dK vs)) : DGet H p (kV k) (valV vs k) := DGet.k e
theorem d_dget (hr : X.A.units + 64 < cLine) (ho : DE X E o fo) (hi : DE X E i fi) (hs : NoSl i := by intro _ _; rfl) : DE X E (.Subscript o i pos) (dgetE fo fi) :=
  PE.conv (pe_dget (by omega) ho hi hs) fun σ H Q ⟨ι, env, ms, r, ev, q⟩ => by
    refine tR_seq r ev q fun ι1 H1 ms1 d x B1 o1 => ?_
    refine tR_seq B1.rel B1.env o1 fun ι2 H2 ms2 j y B2 o2 => ?_
    cases c : cellK ms2 d with
    | none => simp only [c] at o2; exact o2.elim
    | some z =>
      obtain ⟨n, fs⟩ := z
      obtain ⟨p, vs, rfl, _, h1, hk⟩ := B2.rel.cellK c (Rp.mono B2.le _ _ B1.r)
      cases q1 : keyOf j with
      | none => simp only [c, q1, Option.bind_none, optR] at o2; exact o2.elim
      | some k =>
        cases q2 : valD fs k with
        | none => simp only [c, q1, q2, Option.bind_some, optR] at o2; exact o2.elim
        | some dd =>
          simp only [c, q1, q2, Option.bind_some, optR] at o2
          obtain ⟨v, e1, e2⟩ := hk.val.1 dd q2
          have ek := key_v q1 B2.r
          subst ek
          exact ⟨p, v, rfl, e1 ▸ DGet.k h1, o2 _ ι2 H2 B2.rel .refl e2⟩
theorem dput_step {K : PySem.W.Frag} {E : EW} {ι : Ct} {H : Hp} {ms : MS} {p : Addr} {n : Nat} {fs : List (Key × D)} {vs : List (Key × V)} {k : Key} {d : D} {v : V} {env : Env} {σ : St} {D' : Ends} (R : Rel K ι H ms) (ev : EnvOk K ι H env σ) (hn : ι.a[n]? = some p) (h : KD K ι H fs vs) (a : Rp K ι H d v)
    (o : OutS K E ι H (.ok (.nx, env) (ms.set n (.dK (putD fs k d)))) D') : D'.nx σ (upd H p (.dK (putK vs k v))) := by
  have w := Le.write (o := .dK (putK vs k v)) R hn
  have h2 := (h.put (k := k) a).mono w
  exact o σ ι _ (R.write hn ⟨_, upd_same, h2.ks, h2.rs⟩) w (ev.mono w)
theorem s_dput (hr : X.A.units + 64 < cLine) (ho : DE X E o fo) (hi : DE X E i fi) (hv : DE X E value fv) (hs : swapsWith value (some (.Subscript o i pos')) pos.line X.env = pure false := by rfl) : DS X E (.Assign [.Subscript o i pos'] value pos) (dputS fv fo fi) :=
  PS.conv (ps_dput (by omega) ho hi hv hs) fun σ H D' ⟨ι, env, ms, r, ev, q⟩ => by
    refine tR_seqS r ev q fun ι1 H1 ms1 dv v B1 o1 => ?_
    refine tR_seqS B1.rel B1.env o1 fun ι2 H2 ms2 d x B2 o2 => ?_
    refine tR_seqS B2.rel B2.env o2 fun ι3 H3 ms3 j y B3 o3 => ?_
    cases c : cellK ms3 d with
    | none => simp only [c] at o3; exact o3.elim
    | some z =>
      obtain ⟨n, fs⟩ := z
      obtain ⟨p, vs, rfl, hn, h1, hk⟩ := B3.rel.cellK c (Rp.mono B3.le _ _ B2.r)
      cases q1 : keyOf j with
      | none => simp only [c, q1] at o3; exact o3.elim
      | some k =>
        simp only [c, q1] at o3
        by_cases hl : fs.length < LIM
        · rw [if_pos hl] at o3
          have ek := key_v q1 B3.r
          subst ek
          exact ⟨p, _, rfl, DPut.k h1 (by rw [hk.len, ← lim_eq]; exact hl), dput_step B3.rel B3.env hn hk (Rp.mono (B2.le.trans B3.le) _ _ B1.r) o3⟩
        · rw [if_neg hl] at o3; exact o3.elim
theorem s_ddel (ho : DE X E o fo) (hi : DE X E i fi) : DS X E (.Delete [.Subscript o i tpos] pos) (ddelS fo fi) :=
  PS.conv (ps_ddel ho hi) fun σ H D' ⟨ι, env, ms, r, ev, q⟩ => by
    refine tR_seqS r ev q fun ι1 H1 ms1 d x B1 o1 => ?_
    refine tR_seqS B1.rel B1.env o1 fun ι2 H2 ms2 j y B2 o2 => ?_
    cases c : cellK ms2 d with
    | none => simp only [c] at o2; exact o2.elim
    | some z =>
      obtain ⟨n, fs⟩ := z
      obtain ⟨p, vs, rfl, hn, h1, hk⟩ := B2.rel.cellK c (Rp.mono B2.le _ _ B1.r)
      cases q1 : keyOf j with
      | none => simp only [c, q1] at o2; exact o2.elim
      | some k =>
        simp only [c, q1] at o2
        by_cases hl : (valD fs k).isSome = true
        · rw [if_pos hl] at o2
          have w := Le.write (o := .dK (dropK vs k)) B2.rel hn
          have h2 := (hk.drop (k := k)).mono w
          exact ⟨p, vs, k, rfl, h1, key_v q1 B2.r, by rw [hk.some_eq]; exact hl, o2 σ ι2 _ (B2.rel.write hn ⟨_, upd_same, h2.ks, h2.rs⟩) w (B2.env.mono w)⟩
        · rw [if_neg hl] at o2; exact o2.elim
theorem get_step {K : PySem.W.Frag} {ι : Ct} {H : Hp} {fs : List (Key × D)} {vs : List (Key × V)} {k : Key} {d : D} {v : V} (h : KD K ι H fs vs) (a : Rp K ι H d v) : Rp K ι H ((valD fs k).getD d) ((valV vs k).getD v) := by
  cases q : valD fs k with
  | none => rw [h.val.2 q]; exact a
  | some d' => obtain ⟨v', e, b⟩ := h.val.1 d' q; rw [e]; exact b
theorem d_get1 (hr : X.A.units + 64 < cLine) (ho : DE X E o fo) (hi : DE X E e fi) (m : M1 X o "get" apos e pos := by exact ⟨rfl, rfl, rfl, rfl⟩) : DE X E (.Call (.Attribute o "get" apos) [e] [] pos) (get1E fo fi) :=
  PE.conv (pe_dget1 (by omega) ho hi m) fun σ H Q ⟨ι, env, ms, r, ev, q⟩ => by
    refine tR_seq r ev q fun ι1 H1 ms1 d x B1 o1 => ?_
    cases c : cellK ms1 d with
    | none => simp only [c] at o1; exact o1.elim
    | some z =>
      obtain ⟨n, fs⟩ := z
      simp only [c] at o1
      obtain ⟨p, vs, rfl, hn, h1, hk⟩ := B1.rel.cellK c B1.r
      refine ⟨p, rfl, .inl ⟨vs, .inl h1⟩, tR_seq B1.rel B1.env o1 fun ι2 H2 ms2 j y B2 o2 => ?_⟩
      cases c2 : cellK ms2 d with
      | none => simp only [c2] at o2; exact o2.elim
      | some z =>
        obtain ⟨n2, fs2⟩ := z
        obtain ⟨p2, vs2, e2, hn2, h2, hk2⟩ := B2.rel.cellK c2 (Rp.mono B2.le _ _ B1.r)
        cases e2
        cases q1 : keyOf j with
        | none => simp only [c2, q1] at o2; exact o2.elim
        | some k =>
          simp only [c2, q1] at o2
          have ek := key_v q1 B2.r
          subst ek
          exact ⟨_, DGet.k h2, o2 _ ι2 H2 B2.rel .refl (get_step hk2 rfl)⟩
theorem d_get2 {f : Expr} (hr : X.A.units + 64 < cLine) (ho : DE X E o fo) (hi : DE X E e fi) (hf : DE X E f fx) (m : M2 X o "get" apos e f pos := by exact ⟨rfl, rfl, rfl, rfl⟩) : DE X E (.Call (.Attribute o "get" apos) [e, f] [] pos) (get2E fo fi fx) :=
  PE.conv (pe_dget2 (by omega) ho hi hf m) fun σ H Q ⟨ι, env, ms, r, ev, q⟩ => by
    refine tR_seq r ev q fun ι1 H1 ms1 d x B1 o1 => ?_
    cases c : cellK ms1 d with
    | none => simp only [c] at o1; exact o1.elim
    | some z =>
      obtain ⟨n, fs⟩ := z
      simp only [c] at o1
      obtain ⟨p, vs, rfl, hn, h1, hk⟩ := B1.rel.cellK c B1.r
      refine ⟨p, rfl, .inl ⟨vs, .inl h1⟩, tR_seq B1.rel B1.env o1 fun ι2 H2 ms2 j y B2 o2 => tR_seq B2.rel B2.env o2 fun ι3 H3 ms3 u z B3 o3 => ?_⟩
      cases c2 : cellK ms3 d with
      | none => simp only [c2] at o3; exact o3.elim
      | some z =>
        obtain ⟨n2, fs2⟩ := z
        obtain ⟨p2, vs2, e2, hn2, h2, hk2⟩ := B3.rel.cellK c2 (Rp.mono (B2.le.trans B3.le) _ _ B1.r)
        cases e2
        cases q1 : keyOf j with
        | none => simp only [c2, q1] at o3; exact o3.elim
        | some k =>
          simp only [c2, q1] at o3
          have ek := key_v q1 (Rp.mono B3.le _ _ B2.r)
          subst ek
          exact ⟨_, DGet.k h2, o3 _ ι3 H3 B3.rel .refl (get_step hk2 B3.r)⟩
/-! {}, {k: v, ..}: a new dict, empty while the pairs are made -/
@[simp] def dnewE (_ : Env) (ms : MS) : Res D := .ok (.ptr ms.length) (ms ++ [.dK []])
theorem d_dnew : DE X E (.Dict [] [] pos) dnewE := PE.conv pe_dnewK fun σ H Q ⟨ι, env, ms, r, ev, q⟩ => fun p hp => by
  refine q _ (ι.push p) _ (r.newM hp ⟨[], upd_same, rfl, rfl⟩) (Le.newM r hp) ⟨p, rfl, ?_⟩
  show (ι.a ++ [p])[ms.length]? = some p
  rw [← r.len, List.getElem?_append_right (Nat.le_refl _)]
  simp
theorem din_read {K : PySem.W.Frag} {σ : St} {H : Hp} {Q : VK} (o : tD K E (dinE false fi fo) σ H Q) : tDIn (tD K E fi) (tD K E fo) σ H Q := by
  obtain ⟨ι, env, ms, r, ev, q⟩ := o
  refine tR_seq r ev q fun ι1 H1 ms1 j y B1 o1 => ?_
  refine tR_seq B1.rel B1.env o1 fun ι2 H2 ms2 d x B2 o2 => ?_
  cases c : cellK ms2 d with
  | none => simp only [c] at o2; exact o2.elim
  | some z =>
    obtain ⟨n, fs⟩ := z
    obtain ⟨p, vs, rfl, _, h1, hk⟩ := B2.rel.cellK c B2.r
    cases q1 : keyOf j with
    | none => simp only [c, q1] at o2; exact o2.elim
    | some k =>
      simp only [c, q1] at o2
      have ek := key_v q1 (Rp.mono B2.le _ _ B1.r)
      subst ek
      exact ⟨p, _, rfl, DGet.k h1, o2 _ ι2 H2 B2.rel .refl (by rw [hk.some_eq]; rfl)⟩
theorem dnin_read {K : PySem.W.Frag} {σ : St} {H : Hp} {Q : VK} (o : tD K E (dinE true fi fo) σ H Q) : tDNotIn (tD K E fi) (tD K E fo) σ H Q := by
  obtain ⟨ι, env, ms, r, ev, q⟩ := o
  refine tR_seq r ev q fun ι1 H1 ms1 j y B1 o1 => ?_
  refine tR_seq B1.rel B1.env o1 fun ι2 H2 ms2 d x B2 o2 => ?_
  cases c : cellK ms2 d with
  | none => simp only [c] at o2; exact o2.elim
  | some z =>
    obtain ⟨n, fs⟩ := z
    obtain ⟨p, vs, rfl, _, h1, hk⟩ := B2.rel.cellK c B2.r
    cases q1 : keyOf j with
    | none => simp only [c, q1] at o2; exact o2.elim
    | some k =>
      simp only [c, q1] at o2
      have ek := key_v q1 (Rp.mono B2.le _ _ B1.r)
      subst ek
      exact ⟨p, _, rfl, DGet.k h1, o2 _ ι2 H2 B2.rel .refl (by rw [hk.some_eq]; rfl)⟩
theorem d_din (hr : X.A.units + 64 < cLine) (hi : DE X E i fi) (ho : DE X E o fo) (hb : behindInMarks .In o = false := by rfl) : DE X E (.Compare i [.In] [o] pos) (dinE false fi fo) := PE.conv (pe_cmp (pc_din (by omega) hi ho) hb) fun _ _ _ o => din_read o
theorem t_din (hr : X.A.units + 64 < cLine) (hi : DE X E i fi) (ho : DE X E o fo) (hb : behindInMarks .In o = false := by rfl) : DT X E (.Compare i [.In] [o] pos) (valT (dinE false fi fo)) := PT.conv (pt_cmp (pc_din (by omega) hi ho) hb) fun _ _ _ o => din_read (val_test o)
theorem d_dnin (hr : X.A.units + 64 < cLine) (hi : DE X E i fi) (ho : DE X E o fo) (hb : behindInMarks .NotIn o = false := by rfl) : DE X E (.Compare i [.NotIn] [o] pos) (dinE true fi fo) := PE.conv (pe_cmp (pc_dnotin (by omega) hi ho) hb) fun _ _ _ o => dnin_read o
theorem t_dnin (hr : X.A.units + 64 < cLine) (hi : DE X E i fi) (ho : DE X E o fo) (hb : behindInMarks .NotIn o = false := by rfl) : DT X E (.Compare i [.NotIn] [o] pos) (valT (dinE true fi fo)) := PT.conv (pt_cmp (pc_dnotin (by omega) hi ho) hb) fun _ _ _ o => dnin_read (val_test o)
end
/-- the pairs of a display -/
def pairsE : List ((Env → MS → Res D) × (Env → MS → Res D)) → Env → MS → Res (List (D × D))
  | [], _, ms => .ok [] ms
  | (k, v) :: r, env, ms => (k env ms).bind fun a ms1 => (v env ms1).bind fun b ms2 => (pairsE r env ms2).bind fun ps ms3 => .ok ((a, b) :: ps) ms3
def keysOf : List (D × D) → Option (List (Key × D))
  | [] => some []
  | (a, b) :: r => match keyOf a, keysOf r with
    | some k, some ks => some ((k, b) :: ks)
    | _, _ => none
def mergeD (kvs more : List (Key × D)) : List (Key × D) := more.foldl (fun acc kv => putD acc kv.1 kv.2) kvs
@[simp] def dispE (trs : List ((Env → MS → Res D) × (Env → MS → Res D))) (env : Env) (ms : MS) : Res D := (pairsE trs env (ms ++ [.dK []])).bind fun ps ms2 => match ms2[ms.length]? with
  | some (.dK []) => match keysOf ps with
    | some kvs => if kvs.length ≤ 15 then .ok (.ptr ms.length) (ms2.set ms.length (.dK (mergeD [] kvs))) else .bad
    | none => .bad
  | _ => .bad
inductive DPs (X : Cx) (E : EW) : List (Option Expr) → List Expr → List ((Env → MS → Res D) × (Env → MS → Res D)) → Prop where
  | nil : DPs X E [] [] []
  | cons {k v : Expr} {ks : List (Option Expr)} {vs : List Expr} {fk fv : Env → MS → Res D} {trs : List ((Env → MS → Res D) × (Env → MS → Res D))} (hk : DE X E k fk) (hv : DE X E v fv) (hr : DPs X E ks vs trs) : DPs X E (some k :: ks) (v :: vs) ((fk, fv) :: trs)
def prRp (K : PySem.W.Frag) (ι : Ct) (H : Hp) : List (D × D) → List (V × V) → Prop
  | [], vs => vs = []
  | p :: ps, vs => ∃ q r, vs = q :: r ∧ Rp K ι H p.1 q.1 ∧ Rp K ι H p.2 q.2 ∧ prRp K ι H ps r
theorem prRp.mono {K : PySem.W.Frag} {ι ι' : Ct} {H H' : Hp} (l : Le ι H ι' H') : ∀ {ps : List (D × D)} {vs : List (V × V)}, prRp K ι H ps vs → prRp K ι' H' ps vs
  | [], _, h => h
  | p :: ps, _, ⟨q, r, e, a, b, c⟩ => ⟨q, r, e, Rp.mono l _ _ a, Rp.mono l _ _ b, prRp.mono l c⟩
theorem DPs.pps {X : Cx} {E : EW} {pos : Pos} {ks : List (Option Expr)} {vs : List Expr} {trs : List ((Env → MS → Res D) × (Env → MS → Res D))} (h : DPs X E ks vs trs) : PPs X pos ks vs (trs.map fun p => (tD X.K E p.1, tD X.K E p.2)) := by
  induction h with
  | nil => exact pps_nil
  | cons hk hv _ ih => exact pps_cons hk hv ih
theorem pairs_read {K : PySem.W.Frag} {E : EW} {σ : St} : ∀ {trs : List ((Env → MS → Res D) × (Env → MS → Res D))} {H : Hp} {Q : List (V × V) → Hp → Prop}, tR K E (prRp K) (pairsE trs) σ H Q → tPairs (trs.map fun p => (tD K E p.1, tD K E p.2)) σ H Q
  | [], H, Q, ⟨ι, env, ms, r, ev, o⟩ => o [] ι H r .refl rfl
  | (fk, fv) :: trs, H, Q, ⟨ι, env, ms, r, ev, o⟩ => by
    refine tR_seq r ev o fun ι1 H1 ms1 a x B1 o1 => ?_
    refine tR_seq B1.rel B1.env o1 fun ι2 H2 ms2 b y B2 o2 => ?_
    refine pairs_read (trs := trs) (tR_seq B2.rel B2.env o2 fun ι3 H3 ms3 ps qs B3 o3 => ?_)
    exact o3 _ ι3 H3 B3.rel .refl ⟨(x, y), qs, rfl, Rp.mono (B2.le.trans B3.le) _ _ B1.r, Rp.mono B3.le _ _ B2.r, B3.r⟩
theorem keys_read {K : PySem.W.Frag} {ι : Ct} {H : Hp} : ∀ {ps : List (D × D)} {kvs : List (Key × D)} {qs : List (V × V)}, keysOf ps = some kvs → prRp K ι H ps qs → ∃ ws : List (Key × V), qs = ws.map (fun kv => (kV kv.1, kv.2)) ∧ KD K ι H kvs ws
  | [], _, _, e, h => by cases e; cases h; exact ⟨[], rfl, .nil⟩
  | (a, b) :: ps, _, _, e, ⟨q, r, hq, h1, h2, h3⟩ => by
    subst hq
    unfold keysOf at e
    cases e1 : keyOf a with
    | none => simp only [e1] at e; cases e
    | some k =>
      cases e2 : keysOf ps with
      | none => simp only [e1, e2] at e; cases e
      | some ks =>
        simp only [e1, e2] at e
        cases e
        obtain ⟨ws, rfl, hk⟩ := keys_read e2 h3
        obtain ⟨qk, qv⟩ := q
        have := key_v e1 h1
        simp only at this
        subst this
        exact ⟨(k, qv) :: ws, rfl, KD.cons h2 hk⟩
theorem KD.merge {K : PySem.W.Frag} {ι : Ct} {H : Hp} : ∀ {more : List (Key × D)} {ms : List (Key × V)} {fs : List (Key × D)} {vs : List (Key × V)}, KD K ι H more ms → KD K ι H fs vs → KD K ι H (mergeD fs more) (mergeK vs ms)
  | [], ms, fs, vs, h, h' => by
    have : ms = [] := List.length_eq_zero_iff.mp h.len
    subst this
    exact h'
  | p :: more, ms, fs, vs, h, h' => by
    obtain ⟨v, r, rfl, a, h2⟩ := h.uncons
    show KD K ι H (mergeD (putD fs p.1 p.2) more) (mergeK (putK vs p.1 v) r)
    exact KD.merge h2 (h'.put a)
theorem d_disp {X : Cx} {E : EW} {pos : Pos} {ks : List (Option Expr)} {vs : List Expr} {trs : List ((Env → MS → Res D) × (Env → MS → Res D))} (h : DPs X E ks vs trs) (hall : ks.all (·.isSome) = true := by rfl) (hl : ks.length = vs.length := by rfl) (h0 : ks ≠ [] := by simp) (h15 : ks.length ≤ 15 := by decide) : DE X E (.Dict ks vs pos) (dispE trs) :=
  PE.conv (pe_disp h.pps hall hl h0 h15) fun σ H Q ⟨ι, env, ms, r, ev, q⟩ => fun p hp => by
    have R1 : Rel X.K (ι.push p) (upd H p (.dK [])) (ms ++ [.dK []]) := r.newM hp ⟨[], upd_same, rfl, rfl⟩
    have l1 : Le ι H (ι.push p) (upd H p (.dK [])) := Le.newM r hp
    have hpn : (ι.push p).a[ms.length]? = some p := by
      show (ι.a ++ [p])[ms.length]? = some p
      rw [← r.len, List.getElem?_append_right (Nat.le_refl _)]
      simp
    unfold dispE at q
    refine pairs_read (tR_seq R1 (ev.mono l1) (Out.from l1 q) fun ι2 H2 ms2 ps qs B2 o2 => ?_)
    have hp2 : ι2.a[ms.length]? = some p := B2.le.at hpn
    cases hc : ms2[ms.length]? with
    | none => simp only [hc] at o2; exact o2.elim
    | some c =>
      cases c with
      | dK kvs0 =>
        cases kvs0 with
        | nil =>
          simp only [hc] at o2
          cases hk : keysOf ps with
          | none => simp only [hk] at o2; exact o2.elim
          | some kvs =>
            simp only [hk] at o2
            by_cases hl : kvs.length ≤ 15
            · rw [if_pos hl] at o2
              obtain ⟨ws, rfl, hkd⟩ := keys_read hk B2.r
              obtain ⟨us, h1, h2, _⟩ := B2.rel.ok _ p _ hp2 hc
              have hu : us = [] := List.length_eq_zero_iff.mp (by have := congrArg List.length h2; simpa using this)
              subst hu
              have w := Le.write (o := .dK (mergeK [] ws)) B2.rel hp2
              have hm := (KD.merge hkd .nil).mono w
              exact ⟨h1, ws, rfl, by rw [hkd.len]; exact hl, o2 _ ι2 _ (B2.rel.write hp2 ⟨_, upd_same, hm.ks, hm.rs⟩) w ⟨p, rfl, hp2⟩⟩
            · rw [if_neg hl] at o2; exact o2.elim
        | cons _ _ => simp only [hc] at o2; exact o2.elim
      | lst _ => simp only [hc] at o2; exact o2.elim
      | obj _ _ => simp only [hc] at o2; exact o2.elim
      | dT _ => simp only [hc] at o2; exact o2.elim

/-! ### f-strings of texts and numbers -/
@[simp] def fmtE (f : Env → MS → Res D) (env : Env) (ms : MS) : Res D := (f env ms).bind fun d ms1 => match d with
  | .str y => if y.length ≤ LIM then .ok (.str y) ms1 else .bad
  | .int i => if i.natAbs.log2 < 1920 then .ok (.str (toString i)) ms1 else .bad
  | _ => .bad
def joinsE : List (Env → MS → Res D) → Str → Env → MS → Res D
  | [], acc, _, ms => .ok (.str acc) ms
  | f :: fs, acc, env, ms => (f env ms).bind fun d ms1 => match d with
    | .str y => if (acc ++ y).length ≤ LIM then joinsE fs (acc ++ y) env ms1 else .bad
    | _ => .bad
inductive DJ (X : Cx) (E : EW) : List Expr → List (Env → MS → Res D) → Prop where
  | nil : DJ X E [] []
  | cons {e : Expr} {f : Env → MS → Res D} {es : List Expr} {fs : List (Env → MS → Res D)} (h : DE X E e f) (r : DJ X E es fs) : DJ X E (e :: es) (f :: fs)
section
variable {X : Cx} {E : EW} {e : Expr} {f : Env → MS → Res D} {pos : Pos}
theorem DJ.pj {es : List Expr} {fs : List (Env → MS → Res D)} (h : DJ X E es fs) : PJ X es (fs.map fun f => tD X.K E f) := by
  induction h with
  | nil => exact .nil
  | cons h _ ih => exact .cons h ih
theorem d_fmt (he : DE X E e f) : DE X E (.FormattedValue e (-1) none pos) (fmtE f) :=
  PE.conv (pe_fmt he) fun σ H Q ⟨ι, env, ms, r, ev, o⟩ => tR_seq r ev o fun ι1 H1 ms1 d x B o1 => by
    cases d with
    | str y =>
      by_cases h : y.length ≤ LIM
      · simp only [if_pos h] at o1
        exact .inl ⟨y, B.r, by rw [← lim_eq]; exact h, o1 _ ι1 H1 B.rel .refl rfl⟩
      · simp only [if_neg h] at o1; exact o1.elim
    | int i =>
      by_cases h : i.natAbs.log2 < 1920
      · simp only [if_pos h] at o1
        exact .inr ⟨i, B.r, h, o1 _ ι1 H1 B.rel .refl rfl⟩
      · simp only [if_neg h] at o1; exact o1.elim
    | _ => exact o1.elim
theorem joins_read {K : PySem.W.Frag} {σ : St} : ∀ {fs : List (Env → MS → Res D)} {acc : Str} {H : Hp} {Q : VK}, tD K E (joinsE fs acc) σ H Q → tJs (fs.map fun f => tD K E f) acc σ H fun out H1 => Q (.str out) H1
  | [], acc, H, Q, ⟨ι, env, ms, r, ev, o⟩ => o _ ι H r .refl rfl
  | f :: fs, acc, H, Q, ⟨ι, env, ms, r, ev, o⟩ => tR_seq r ev o fun ι1 H1 ms1 d x B o1 => by
    cases d with
    | str y =>
      by_cases h : (acc ++ y).length ≤ LIM
      · simp only [if_pos h] at o1
        exact ⟨y, B.r, by rw [← lim_eq]; exact h, joins_read ⟨ι1, env, ms1, B.rel, B.env, o1⟩⟩
      · simp only [if_neg h] at o1; exact o1.elim
    | _ => exact o1.elim
theorem d_joined {v1 v2 : Expr} {rest : List Expr} {fs : List (Env → MS → Res D)} (h : DJ X E (v1 :: v2 :: rest) fs) : DE X E (.JoinedStr (v1 :: v2 :: rest) pos) (joinsE fs Str.empty) :=
  PE.conv (pe_joined h.pj) fun _ _ _ o => joins_read o
end

/-! ### x is None, module dicts of texts -/
def isNon : D → Bool
  | .non => true
  | _ => false
@[simp] def isND (neg : Bool) (a b : D) (ms : MS) : Res D := match b with
  | .non => .ok (.bl (if neg then !isNon a else isNon a)) ms
  | _ => .bad
section
variable {K : PySem.W.Frag} {E : EW}
theorem isNon_v {ι : Ct} {H : Hp} {d : D} {v : V} (h : Rp K ι H d v) : decide (v = .non) = isNon d := by
  cases d with
  | non => cases h; rfl
  | bl b => cases h; rfl
  | int i => cases h; rfl
  | str x => cases h; rfl
  | tup ds => obtain ⟨p, xs, rfl, _⟩ := h; rfl
  | lst ds => obtain ⟨p, xs, rfl, _⟩ := h; rfl
  | ro ds => obtain ⟨p, xs, rfl, _⟩ := h; rfl
  | ptr n => obtain ⟨p, rfl, _⟩ := h; rfl
theorem q_isN : P2 K E (fun x y H Q => y = .non ∧ Q (.bl (decide (x = .non))) H) (isND false) := by
  intro ι H ms a b x y Q R ra rb o
  cases b with
  | non => exact ⟨rb, by rw [isNon_v ra]; exact o _ ι H R .refl rfl⟩
  | _ => exact o.elim
theorem q_notN : P2 K E (fun x y H Q => y = .non ∧ Q (.bl (!decide (x = .non))) H) (isND true) := by
  intro ι H ms a b x y Q R ra rb o
  cases b with
  | non => exact ⟨rb, by rw [isNon_v ra]; exact o _ ι H R .refl rfl⟩
  | _ => exact o.elim
end
/-- what is known of a module's dict: texts, or not there -/
def KTab (K : PySem.W.Frag) (d : Addr) (tbl : List (Str × Option Str)) : Prop := ∀ z r, tbl.lookup z = some r → match r with
  | none => PySem.W.nsIn K d z = some none
  | some y => ∃ t, PySem.W.nsIn K d z = some (some (.str y t))
@[simp] def kinE (tbl : List (Str × Option Str)) (f : Env → MS → Res D) (env : Env) (ms : MS) : Res D := (f env ms).bind fun d ms1 => match d with
  | .str z => match tbl.lookup z with
    | some r => .ok (.bl r.isSome) ms1
    | none => .bad
  | _ => .bad
@[simp] def kgetE (tbl : List (Str × Option Str)) (f : Env → MS → Res D) (env : Env) (ms : MS) : Res D := (f env ms).bind fun d ms1 => match d with
  | .str z => match tbl.lookup z with
    | some (some y) => .ok (.str y) ms1
    | _ => .bad
  | _ => .bad
structure KM (K : PySem.W.Frag) (w : World) (mg : Str → Option Value) (x : Str) (tbl : List (Str × Option Str)) where
  d : Addr
  es : Array DictEntry
  n : Nat
  k : KDict K w d es n
  t : KTab K d tbl
  g : mg x = some (.ref d)
section
variable {X : Cx} {E : EW} {i : Expr} {f : Env → MS → Res D} {x : Str} {tbl : List (Str × Option Str)} {p pos : Pos}
theorem kin_read {K : PySem.W.Frag} {w : World} {mg : Str → Option Value} (C : KM K w mg x tbl) {σ : St} {H : Hp} {Q : VK} (h : tD K E (kinE tbl f) σ H Q) : tD K E f σ H fun y H1 => ∃ (z : Str) (r : Option Value), y = .str z ∧ V.ref C.d = .ref C.d ∧ PySem.W.nsIn K C.d z = some r ∧ Q (.bl r.isSome) H1 := by
  obtain ⟨ι, env, ms, r, ev, o⟩ := h
  refine tR_seq r ev o fun ι1 H1 ms1 d x B1 o1 => ?_
  cases d with
  | str z =>
    cases q : tbl.lookup z with
    | none => simp only [q] at o1; exact o1.elim
    | some r =>
      simp only [q] at o1
      have ht := C.t z r q
      cases r with
      | none => exact ⟨z, _, B1.r, rfl, ht, o1 _ ι1 H1 B1.rel .refl rfl⟩
      | some y => obtain ⟨t, ht⟩ := ht; exact ⟨z, _, B1.r, rfl, ht, o1 _ ι1 H1 B1.rel .refl rfl⟩
  | _ => exact o1.elim
theorem d_kin (C : KM X.K X.w X.mg x tbl) (hi : DE X E i f) (hg : Gl X x := by rfl) (hb : behindInMarks .In (.Name x p) = false := by rfl) (hdb : (x == ("__debug__" : Str)) = false := by decide) : DE X E (.Compare i [.In] [.Name x p] pos) (kinE tbl f) :=
  PE.conv (pe_cmpR (op_in_kd C.k) hi (pe_glob hg C.g (v := .ref C.d) rfl hdb) hb) fun σ H Q h => kin_read C h
theorem t_kin (C : KM X.K X.w X.mg x tbl) (hi : DE X E i f) (hg : Gl X x := by rfl) (hb : behindInMarks .In (.Name x p) = false := by rfl) (hdb : (x == ("__debug__" : Str)) = false := by decide) : DT X E (.Compare i [.In] [.Name x p] pos) (valT (kinE tbl f)) :=
  PT.conv (pt_cmpR (op_in_kd C.k) hi (pe_glob hg C.g (v := .ref C.d) rfl hdb) hb) fun σ H Q h => (kin_read C (val_test h))
theorem pe_kget {ti : TE} (C : KM X.K X.w X.mg x tbl) (hi : PE X i ti) (hg : Gl X x) (hs : NoSl i) (hdb : (x == ("__debug__" : Str)) = false) : PE X (.Subscript (.Name x p) i pos) (fun σ H Q => ti σ H fun y H1 => ∃ (z : Str) (u0 : Value) (v0 : V), y = .str z ∧ PySem.W.nsIn X.K C.d z = some (some u0) ∧ RelV v0 u0 ∧ Q v0 H1) := by
  refine ⟨fun pins s σ H Q I h => subD_of PySem.F.slot_dict_getitem.lookup hs (thn ((pe_glob (pos := p) hg C.g (v := .ref C.d) rfl hdb).run pins s σ H (fun y H' => y = .ref C.d ∧ H' = H) I ⟨rfl, rfl⟩) fun u s1 ⟨y, H1, I1, ry, ey, eH⟩ => ?_)⟩
  subst eH
  subst ey
  refine thn (hi.run pins s1 σ H1 _ I1 h) fun iv s2 ⟨y, H2, I2, ry2, z, u0, v0, ez, e, rv, q⟩ => ?_
  obtain rfl : u = Value.ref C.d := ry
  exact ⟨kd_type C.k I2, op_item_kd C.k pins s2 σ H2 (.ref C.d) y _ iv Q I2 rfl ry2 ⟨z, u0, v0, rfl, ez, e, rv, q⟩⟩
theorem d_kget (C : KM X.K X.w X.mg x tbl) (hi : DE X E i f) (hg : Gl X x := by rfl) (hs : NoSl i := by intro _ _; rfl) (hdb : (x == ("__debug__" : Str)) = false := by decide) : DE X E (.Subscript (.Name x p) i pos) (kgetE tbl f) :=
  PE.conv (pe_kget C hi hg hs hdb) fun σ H Q ⟨ι, env, ms, r, ev, o⟩ => tR_seq r ev o fun ι1 H1 ms1 d y B1 o1 => by
    cases d with
    | str z =>
      cases q : tbl.lookup z with
      | none => simp only [q] at o1; exact o1.elim
      | some r =>
        cases r with
        | none => simp only [q] at o1; exact o1.elim
        | some t =>
          simp only [q] at o1
          obtain ⟨tk, ht⟩ := C.t z (some t) q
          exact ⟨z, _, .str t, B1.r, ht, ⟨tk, rfl⟩, o1 _ ι1 H1 B1.rel .refl rfl⟩
    | _ => exact o1.elim
end
def KTabL (K : PySem.W.Frag) (d : Addr) : List (Str × Option Str) → Prop
  | [] => True
  | (z, none) :: r => PySem.W.nsIn K d z = some none ∧ KTabL K d r
  | (z, some y) :: r => (∃ t, PySem.W.nsIn K d z = some (some (.str y t))) ∧ KTabL K d r
theorem KTabL.tab {K : PySem.W.Frag} {d : Addr} : ∀ {tbl : List (Str × Option Str)}, KTabL K d tbl → KTab K d tbl
  | [], _ => fun z r h => by cases h
  | (z0, none) :: l, h => fun z r e => by
    unfold List.lookup at e
    cases q : z == z0 with
    | true =>
      rw [q] at e
      cases e
      have : z = z0 := eq_of_beq q
      subst this
      exact h.1
    | false =>
      rw [q] at e
      exact KTabL.tab h.2 z r e
  | (z0, some y) :: l, h => fun z r e => by
    unfold List.lookup at e
    cases q : z == z0 with
    | true =>
      rw [q] at e
      cases e
      have : z = z0 := eq_of_beq q
      subst this
      exact h.1
    | false =>
      rw [q] at e
      exact KTabL.tab h.2 z r e
end DL

set_option maxHeartbeats 1000000
namespace DL
open PySem PySem.Spec L2
open PyProof.Rows hiding St

/-! ### objects -/
structure KC (K : PySem.W.Frag) (mg : Str → Option Value) (nm : Str) (fl : List Str) where
  C : Addr
  ns : PySem.W.nsIn K mainGlobals nm = some (some (.ref C))
  g : mg nm = some (.ref C)
  cl : Cls K C
  no : ∀ f, f ∈ fl → NoAttr K C f
def putFD (f : Str) (d : D) : List (Str × D) → List (Str × D)
  | [] => [(f, d)]
  | (g, x) :: r => if g = f then (g, d) :: r else (g, x) :: putFD f d r
structure KF (K : PySem.W.Frag) (ι : Ct) (H : Hp) (fs : List (Str × D)) (vs : List (Str × V)) : Prop where
  ks : vs.map (·.1) = fs.map (·.1)
  rs : Rps K ι H (fs.map (·.2)) (vs.map (·.2))
section
variable {K : PySem.W.Frag} {ι ι' : Ct} {H H' : Hp} {ms : MS}
theorem KF.uncons {p : Str × D} {fs : List (Str × D)} {vs : List (Str × V)} (h : KF K ι H (p :: fs) vs) : ∃ v r, vs = (p.1, v) :: r ∧ Rp K ι H p.2 v ∧ KF K ι H fs r := by
  obtain ⟨h1, h2⟩ := h
  cases vs with
  | nil => simp at h1
  | cons q r =>
    obtain ⟨w, us, e, a, b⟩ := h2
    simp only [List.map_cons, List.cons.injEq] at h1 e
    obtain ⟨e1, e2⟩ := e
    refine ⟨q.2, r, ?_, e1 ▸ a, h1.2, e2 ▸ b⟩
    rw [← h1.1]
theorem KF.cons {k : Str} {d : D} {v : V} {fs : List (Str × D)} {vs : List (Str × V)} (a : Rp K ι H d v) (h : KF K ι H fs vs) : KF K ι H ((k, d) :: fs) ((k, v) :: vs) :=
  ⟨by simp [h.ks], ⟨v, _, rfl, a, h.rs⟩⟩
theorem KF.nil_of {vs : List (Str × V)} (h : KF K ι H [] vs) : vs = [] := by
  have := congrArg List.length h.ks
  simpa using this
theorem KF.mono (l : Le ι H ι' H') {fs : List (Str × D)} {vs : List (Str × V)} (h : KF K ι H fs vs) : KF K ι' H' fs vs := ⟨h.ks, Rps.mono l _ _ h.rs⟩
theorem KF.len {fs : List (Str × D)} {vs : List (Str × V)} (h : KF K ι H fs vs) : vs.length = fs.length := by
  have := congrArg List.length h.ks
  simpa using this
theorem KF.get {f : Str} : ∀ {fs : List (Str × D)} {vs : List (Str × V)}, KF K ι H fs vs → (∀ d, fs.lookup f = some d → ∃ v, vs.lookup f = some v ∧ Rp K ι H d v) ∧ (fs.lookup f = none → vs.lookup f = none)
  | [], vs, h => by
    have := h.nil_of
    subst this
    exact ⟨fun d e => (by cases e), fun _ => rfl⟩
  | p :: fs, vs, h => by
    obtain ⟨v, r, rfl, a, h'⟩ := h.uncons
    obtain ⟨g, x⟩ := p
    cases e : (f == g) with
    | true =>
      have e1 : ((g, x) :: fs).lookup f = some x := by simp [List.lookup, e]
      have e2 : ((g, v) :: r).lookup f = some v := by simp [List.lookup, e]
      exact ⟨fun d q => by rw [e1] at q; cases q; exact ⟨v, e2, a⟩, fun q => by rw [e1] at q; cases q⟩
    | false =>
      have e1 : ((g, x) :: fs).lookup f = fs.lookup f := by simp [List.lookup, e]
      have e2 : ((g, v) :: r).lookup f = r.lookup f := by simp [List.lookup, e]
      rw [e1]
      show (∀ d, fs.lookup f = some d → ∃ v', ((g, v) :: r).lookup f = some v' ∧ Rp K ι H d v') ∧ (fs.lookup f = none → ((g, v) :: r).lookup f = none)
      rw [e2]
      exact KF.get h'
theorem KF.put {f : Str} {d : D} {v : V} (a : Rp K ι H d v) : ∀ {fs : List (Str × D)} {vs : List (Str × V)}, KF K ι H fs vs → KF K ι H (putFD f d fs) (putF f v vs)
  | [], vs, h => by
    have := h.nil_of
    subst this
    exact KF.cons a ⟨rfl, rfl⟩
  | p :: fs, vs, h => by
    obtain ⟨w, r, rfl, b, h'⟩ := h.uncons
    obtain ⟨g, x⟩ := p
    show KF K ι H (if g = f then (g, d) :: fs else (g, x) :: putFD f d fs) (if g = f then (g, v) :: r else (g, w) :: putF f v r)
    by_cases e : g = f
    · rw [if_pos e, if_pos e]
      exact KF.cons a h'
    · rw [if_neg e, if_neg e]
      exact KF.cons b (KF.put a h')
@[simp] def objOf (nm : Str) (ms : MS) (o : D) : Option (Nat × List (Str × D)) := match o with
  | .ptr n => match ms[n]? with
    | some (.obj nm' fs) => if nm' = nm then some (n, fs) else none
    | _ => none
  | _ => none
theorem Rel.objOf {mg : Str → Option Value} {nm : Str} {fl : List Str} (T : KC K mg nm fl) (R : Rel K ι H ms) {d : D} {n : Nat} {fs : List (Str × D)} {v : V} (e : objOf nm ms d = some (n, fs)) (h : Rp K ι H d v) :
    d = .ptr n ∧ ∃ p dx vs, v = .ref p ∧ ι.a[n]? = some p ∧ H p = some (.ins T.C dx vs) ∧ KF K ι H fs vs := by
  cases d with
  | ptr m =>
    unfold DL.objOf at e
    cases q : ms[m]? with
    | none => simp only [q] at e; cases e
    | some c =>
      cases c with
      | obj nm' fs' =>
        simp only [q] at e
        by_cases hn : nm' = nm
        · rw [if_pos hn] at e
          cases e
          subst hn
          obtain ⟨p, rfl, hp⟩ := h
          obtain ⟨C, dx, vs, h0, h1, h2, h3⟩ := R.ok _ p _ hp q
          rw [T.ns] at h0
          cases h0
          exact ⟨rfl, p, dx, vs, rfl, hp, h1, h2, h3⟩
        · rw [if_neg hn] at e; cases e
      | _ => simp only [q] at e; cases e
  | _ => cases e
end
@[simp] def fldE (nm f : Str) (fo : Env → MS → Res D) (env : Env) (ms : MS) : Res D := (fo env ms).bind fun o ms1 => match objOf nm ms1 o with
  | some (_, fs) => optR (fs.lookup f) ms1
  | none => .bad
@[simp] def fldS (nm f : Str) (fo fv : Env → MS → Res D) : SF := fun env ms => (fv env ms).bind fun d ms1 => (fo env ms1).bind fun o ms2 => match objOf nm ms2 o with
  | some (n, fs) => if fs.length < 1000 then .ok (.nx, env) (ms2.set n (.obj nm (putFD f d fs))) else .bad
  | none => .bad
@[simp] def methE (nm m : Str) (fo : Env → MS → Res D) (fs : Env → MS → Res (List D)) (p : List D → MS → Res D) (env : Env) (ms : MS) : Res D := (fo env ms).bind fun o ms1 => match objOf nm ms1 o with
  | some (_, fl) => if (fl.lookup m).isSome = true then .bad else (fs env ms1).bind fun ds ms2 => p (o :: ds) ms2
  | none => .bad
@[simp] def makeE (nm : Str) (n : Nat) (fs : Env → MS → Res (List D)) (sem : List D → MS → Res D) (env : Env) (ms : MS) : Res D := (fs env ms).bind fun ds ms1 => (callP n sem (.ptr ms1.length :: ds) (ms1 ++ [.obj nm []])).bind fun r ms2 => match r with
  | .non => .ok (.ptr ms1.length) ms2
  | _ => .bad
@[simp] def badS : SF := fun _ _ => .bad
structure CalM (P : Program) (w : World) (K : PySem.W.Frag) (mg : Str → Option Value) (base : Heap) (k : Nat) (nm m : Str) (ps : List Str) (sem : List D → MS → Res D) where
  fl : List Str
  c : KC K mg nm fl
  f : Addr
  fd : FuncData
  ok : FnOk P w K mg base CX0 k f fd ps (dSp K ps.length sem)
  me : Meth K c.C m f
  b : Binds K fd ps []
structure CalI (P : Program) (w : World) (K : PySem.W.Frag) (mg : Str → Option Value) (base : Heap) (k : Nat) (nm : Str) (ps : List Str) (sem : List D → MS → Res D) where
  fl : List Str
  c : KC K mg nm fl
  f : Addr
  fd : FuncData
  ok : FnOk P w K mg base CX0 k f fd ps (dSp K ps.length sem)
  mkc : Mk K c.C f
  b : Binds K fd ps []
section
variable {X : Cx} {E : EW} {o e value : Expr} {es : List Expr} {nm f m : Str} {fl ps : List Str} {pos pos' apos p : Pos} {fo fv : Env → MS → Res D} {fs : Env → MS → Res (List D)} {k n : Nat} {sem : List D → MS → Res D}
theorem d_fld (T : KC X.K X.mg nm fl) (hf : f ∈ fl) (ho : DE X E o fo) (hb : attributeBase o f X.env (eval o X.env) = eval o X.env := by rfl) : DE X E (.Attribute o f pos) (fldE nm f fo) :=
  PE.conv (pe_fld ho hb) fun σ H Q ⟨ι, env, ms, r, ev, q⟩ => tR_seq r ev q fun ι1 H1 ms1 d x B1 o1 => by
    cases c : objOf nm ms1 d with
    | none => simp only [c] at o1; exact o1.elim
    | some z =>
      obtain ⟨j, fs⟩ := z
      simp only [c] at o1
      obtain ⟨_, a, dx, vs, rfl, _, h1, hk⟩ := Rel.objOf T B1.rel c B1.r
      cases l : fs.lookup f with
      | none => rw [l] at o1; exact o1.elim
      | some y =>
        rw [l] at o1
        obtain ⟨v, hv, rv⟩ := hk.get.1 y l
        exact ⟨a, T.C, dx, vs, v, rfl, h1, T.cl, T.no f hf, hv, o1 v ι1 H1 B1.rel .refl rv⟩
theorem s_fld (T : KC X.K X.mg nm fl) (hf : f ∈ fl) (ho : DE X E o fo) (hv : DE X E value fv) (hs : swapsWith value (some (.Attribute o f pos')) pos.line X.env = pure false := by rfl) : DS X E (.Assign [.Attribute o f pos'] value pos) (fldS nm f fo fv) :=
  PS.conv (ps_fld ho hv hs) fun σ H D' ⟨ι, env, ms, r, ev, q⟩ => by
    refine tR_seqS r ev q fun ι1 H1 ms1 dv v B1 o1 => ?_
    refine tR_seqS B1.rel B1.env o1 fun ι2 H2 ms2 d x B2 o2 => ?_
    cases c : objOf nm ms2 d with
    | none => simp only [c] at o2; exact o2.elim
    | some z =>
      obtain ⟨j, fs⟩ := z
      simp only [c] at o2
      obtain ⟨_, a, dx, vs, rfl, hn, h1, hk⟩ := Rel.objOf T B2.rel c B2.r
      by_cases hl : fs.length < 1000
      · rw [if_pos hl] at o2
        have w := Le.write (o := .ins T.C dx (putF f v vs)) B2.rel hn
        have rv := Rp.mono B2.le _ _ B1.r
        have h2 := (hk.put (f := f) rv).mono w
        exact ⟨a, T.C, dx, vs, rfl, h1, T.cl, T.no f hf, by rw [hk.len]; exact hl, o2 σ ι2 _ (B2.rel.write hn ⟨T.C, dx, _, T.ns, upd_same, h2.ks, h2.rs⟩) w (B2.env.mono w)⟩
      · rw [if_neg hl] at o2; exact o2.elim
theorem meth_read {K : PySem.W.Frag} {mg : Str → Option Value} (T : KC K mg nm fl) {σ : St} {H : Hp} {Q : VK} {EX : XK} (h : tD K E (methE nm m fo fs (callP n sem)) σ H Q) : tMeth T.C m (dSp K n sem) [] EX (tD K E fo) (tAr K E fs) σ H Q := by
  obtain ⟨ι, env, ms, r, ev, q⟩ := h
  refine tR_seq r ev q fun ι1 H1 ms1 d x B1 o1 => ?_
  cases c : objOf nm ms1 d with
  | none => simp only [c] at o1; exact o1.elim
  | some z =>
    obtain ⟨j, fls⟩ := z
    simp only [c] at o1
    obtain ⟨_, a, dx, vs, rfl, hn, h1, hk⟩ := Rel.objOf T B1.rel c B1.r
    cases l : fls.lookup m with
    | some y => rw [l] at o1; exact o1.elim
    | none =>
      rw [l] at o1
      refine ⟨a, dx, vs, rfl, h1, hk.get.2 l, ?_⟩
      have o2 : Out K E (Rp K) ι1 H1 ((fs env ms1).bind fun ds ms2 => callP n sem (d :: ds) ms2) Q := o1
      refine tR_seq B1.rel B1.env o2 fun ι2 H2 ms2 ds us B2 o3 => ?_
      unfold callP at o3
      by_cases h : (d :: ds).length = n
      · rw [if_pos h] at o3
        rw [List.append_nil]
        exact ⟨ι2, ms2, d :: ds, B2.rel, ⟨_, us, rfl, Rp.mono B2.le _ _ B1.r, B2.r⟩, h, out_noExc o3⟩
      · rw [if_neg h] at o3; exact o3.elim
theorem c_meth (C : CalM X.prog X.w X.K X.mg X.base k nm m ps sem) (hr : Room k X.A) (ho : DE X E o fo) (ha : DA X E (e :: es) fs)
    (hst : starEach (e :: es) X.env = (false, eval e X.env) :: starEach es X.env := by rfl) (hpl : (backTo pos (starEach es X.env)).any (·.1) = false := by rfl) {pl : Sem Bool}
    (ht : eval (.Call (.Attribute o m apos) (e :: es) [] pos) X.env = (do
      let ov ← eval o X.env
      standAt apos.atName
      let (f, first) ← holding [ov] (getMethod ov m pl)
      callWith pos f first (backTo pos (starEach (e :: es) X.env)) (backToKw pos (keywordEach [] X.env))) := by rfl) (hn : ps.length = n := by rfl) : DE X E (.Call (.Attribute o m apos) (e :: es) [] pos) (methE nm m fo fs (callP n sem)) := by
  subst hn
  exact PE.conv (pe_meth ho C.c.cl C.me C.ok hr C.b .nil pass0 ha hst hpl ht) fun σ H Q h => meth_read C.c h
theorem c_meth0 (C : CalM X.prog X.w X.K X.mg X.base k nm m ps sem) (hr : Room k X.A) (ho : DE X E o fo) {pl : Sem Bool}
    (ht : eval (.Call (.Attribute o m apos) [] [] pos) X.env = (do
      let ov ← eval o X.env
      standAt apos.atName
      let (f, first) ← holding [ov] (getMethod ov m pl)
      callWith pos f first (backTo pos (starEach [] X.env)) (backToKw pos (keywordEach [] X.env))) := by rfl) (hn : ps.length = n := by rfl) : DE X E (.Call (.Attribute o m apos) [] [] pos) (methE nm m fo nilA (callP n sem)) := by
  subst hn
  exact PE.conv (pe_meth0 ho C.c.cl C.me C.ok hr C.b .nil pass0 ht) fun σ H Q h => by
    have := meth_read (E := E) (fs := nilA) C.c (EX := E0) h
    obtain ⟨ι, env, ms, r, ev, q⟩ := this
    refine ⟨ι, env, ms, r, ev, ?_⟩
    cases z : fo env ms with
    | bad => rw [z] at q; exact q
    | exc x ms1 => rw [z] at q; exact q
    | ok d ms1 =>
      rw [z] at q
      intro b ι1 H1 R1 l1 rb
      obtain ⟨a, dx, vs, e1, e2, e3, t⟩ := q b ι1 H1 R1 l1 rb
      refine ⟨a, dx, vs, e1, e2, e3, ?_⟩
      obtain ⟨ι2, env2, ms2, r2, ev2, q2⟩ := t
      exact q2 [] ι2 H1 r2 .refl rfl
theorem make_read {K : PySem.W.Frag} {mg : Str → Option Value} (T : KC K mg nm fl) {σ : St} {H : Hp} {Q : VK} {EX : XK} (h : tD K E (makeE nm n fs sem) σ H Q) : tMake T.C (dSp K n sem) [] EX (tAr K E fs) σ H Q := by
  obtain ⟨ι, env, ms, r, ev, q⟩ := h
  refine tR_seq r ev q fun ι1 H1 ms1 ds us B1 o1 => ?_
  intro x dx nx ndx nex
  have R2 : Rel K ι1 (upd H1 dx (.own x)) ms1 := B1.rel.new ndx
  have l2 : Le ι1 H1 ι1 (upd H1 dx (.own x)) := Le.new B1.rel ndx
  have nx2 : (upd H1 dx (.own x)) x = none := by rw [upd_ne (fun z => nex z.symm)]; exact nx
  have R3 : Rel K (ι1.push x) (upd (upd H1 dx (.own x)) x (.ins T.C dx [])) (ms1 ++ [.obj nm []]) := R2.newM nx2 ⟨T.C, dx, [], T.ns, upd_same, rfl, rfl⟩
  have l3 : Le ι1 H1 (ι1.push x) (upd (upd H1 dx (.own x)) x (.ins T.C dx [])) := l2.trans (Le.newM R2 nx2)
  have hx : (ι1.push x).a[ms1.length]? = some x := by
    show (ι1.a ++ [x])[ms1.length]? = some x
    rw [← B1.rel.len, List.getElem?_append_right (Nat.le_refl _)]
    simp
  rw [List.append_nil]
  unfold callP at o1
  by_cases hl : ((.ptr ms1.length :: ds) : List D).length = n
  · rw [if_pos hl] at o1
    refine ⟨ι1.push x, ms1 ++ [.obj nm []], .ptr ms1.length :: ds, R3, ⟨_, us, rfl, ⟨x, rfl, hx⟩, Rps.mono l3 _ _ B1.r⟩, hl, ?_⟩
    cases z : sem (.ptr ms1.length :: ds) (ms1 ++ [.obj nm []]) with
    | bad => rw [z] at o1; exact o1
    | exc y ms2 => rw [z] at o1; exact o1.elim
    | ok a ms2 =>
      rw [z] at o1
      intro b ι4 H4 R4 l4 rb
      cases a with
      | non =>
        have rb' : b = .non := rb
        exact ⟨rb', o1 (.ref x) ι4 H4 R4 (l3.trans l4) ⟨x, rfl, l4.at hx⟩⟩
      | _ => exact o1.elim
  · rw [if_neg hl] at o1; exact o1.elim
theorem c_make {x : Str} (C : CalI X.prog X.w X.K X.mg X.base k x ps sem) (hr : Room (k + 1) X.A) (ha : DA X E (e :: es) fs) (hg : Gl X x := by rfl) (hdb : (x == ("__debug__" : Str)) = false := by decide)
    (he : starEach (e :: es) X.env = (false, eval e X.env) :: starEach es X.env := by rfl) (hpl : (backTo pos (starEach es X.env)).any (·.1) = false := by rfl) (hn : ps.length = n := by rfl) : DE X E (.Call (.Name x p) (e :: es) [] pos) (makeE x n fs sem) := by
  subst hn
  exact PE.conv (pe_make C.mkc C.ok hr hg C.c.g C.b .nil pass0 ha hdb he hpl) fun σ H Q h => make_read C.c h
theorem c_make0 {x : Str} (C : CalI X.prog X.w X.K X.mg X.base k x ps sem) (hr : Room (k + 1) X.A) (hg : Gl X x := by rfl) (hdb : (x == ("__debug__" : Str)) = false := by decide) (hn : ps.length = n := by rfl) : DE X E (.Call (.Name x p) [] [] pos) (makeE x n nilA sem) := by
  subst hn
  exact PE.conv (pe_make0 C.mkc C.ok hr hg C.c.g C.b .nil pass0 hdb) fun σ H Q h => by
    have := make_read (E := E) (fs := nilA) C.c (EX := E0) h
    obtain ⟨ι, env, ms, r, ev, q⟩ := this
    exact q [] ι H r .refl rfl
/-- what is never come to -/
theorem s_bad {st : Stmt} : DS X E st badS := ⟨fun pins s σ H D I ⟨ι, env, ms, r, ev, q⟩ => q.elim⟩
end
end DL

set_option maxHeartbeats 4000000
namespace DL
open PySem PySem.Spec L2
open PyProof.Rows hiding St

/-! ### set(xs), xs a list of ints -/
section
variable {P : Program} {w : World} {A : Around} {E : Value → Shared → Prop} {s : Shared}
/-- the object that a set is made of -/
abbrev set0 (w : World) : Obj := { cls := .type "set", dict := none, data := .set #[] 0 (.fresh 0 0 (!w.params.followText "set-order")) }
abbrev itr0 (p : Addr) : Obj := { cls := .type "list_iterator", data := .fields #[.ref p, .int 0 0] }
set_option maxHeartbeats 3200000 in
theorem call_set_ints {p : Addr} {us : Array Value} (ks : List Int) {Q : Value → Shared → Prop} (nh : A.handled = none) (il : s.heap.IsList p us) (iu : IntsAre us.toList ks) (room : ks.length + 1 < scanBound)
    (fin : ∀ (g : Heap) (tk c : Nat), SetR w g s.heap.objs.size (fun j => decide (j ∈ ks)) c → (∀ b o, s.heap.get? b = some o → g.get? b = some o) → Q (.ref s.heap.objs.size) { s with heap := g, toks := tk }) :
    wpAny (model P w) A (call (.type "set") [.ref p]) Q E s := by
  have sz : us.size = ks.length := by have q := IntsAre.length iu; rwa [Array.length_toList] at q
  have hmr := F.called_set.mro; obtain ⟨c1, c2, hmr⟩ := hmr
  have k1 := F.called_set.made; have k2 := F.called_set.sub; have k3 := F.called_set.notType; have k4 := F.called_set.canCreate; have k5 := F.typeCall_set_1 (.ref p)
  apply wpAny_call; apply codeAny_of_tree
  change wpAny _ _ (callAny (.type "set") _) _ _ _
  apply wpAny_pure; refine ⟨Code.quiet_builtin _ (by decide +kernel), codeAny_builtin F.entry_type_call ?_⟩
  rw [Around.under_plain (weight_type_call_type "set" [.ref p] []) rfl]
  repeat (any_goals (first | assumption | wp_step))
  let h1 : Heap := s.heap.push (set0 w)
  have new1 : h1.get? s.heap.objs.size = some (set0 w) := Heap.get?_push_size _ rfl
  apply codeAny_mono (code_set_led1 (.ref p) (E := E) (Q₁ := fun ob t => ob = .ref s.heap.objs.size ∧ t = { s with heap := h1 }) ⟨rfl, rfl⟩)
  rintro (_ | fl) t ht
  · exact ht
  cases fl with
  | next => exact ht.elim
  | brk => exact ht.elim
  | cont => exact ht.elim
  | ret ob =>
    obtain ⟨rfl, rfl⟩ := ht
    have ty1 : Shared.TypeIs { s with heap := h1 } (.ref s.heap.objs.size) "set" := ⟨_, new1, rfl⟩
    have k6 := F.called_set.init.lookup; have k7 := F.called_set.init.bind (.ref s.heap.objs.size)
    repeat (any_goals (first | assumption | wp_step))
    let R2 : Value → Shared → Prop := fun r t => r = .none ∧ ∃ g tk c, t = { s with heap := g, toks := tk } ∧ SetR w g s.heap.objs.size (fun j => decide (j ∈ ks)) c ∧ (∀ b o, s.heap.get? b = some o → g.get? b = some o)
    apply codeAny_mono (codeAny_call_builtin (R := wants R2 E) F.called_set.init.plain F.entry_set_init (check_set_init_1 ty1 ?_))
    · rintro (_ | fl2) t2 ht2
      · exact ht2
      cases fl2 with
      | next => exact ht2.elim
      | brk => exact ht2.elim
      | cont => exact ht2.elim
      | ret r =>
        obtain ⟨rfl, g, tk, c, rfl, hS, hk⟩ := ht2
        repeat (any_goals (first | assumption | wp_step))
        exact fin _ _ _ hS hk
    · obtain ⟨o, ho, oc, m, od⟩ := il
      obtain ⟨q1, q2, q3, q4⟩ := o
      simp only at oc od; subst oc od
      have ho1 : h1.get? p = some { cls := .type "list", dict := q2, data := .seq us m, slots := q4 } := Heap.get?_push_of_some _ ho
      have il1 : h1.IsList p us := ⟨_, ho1, rfl, m, rfl⟩
      have b1 := F.sub_list_set; have b2 := F.sub_list_frozenset; have b3 : (Value.type "list" == Value.type "dict") = false := by decide
      unfold Builtin.«set.__init__» noKeywords Builtin.Frozenset.updateFrom
      generalize it : pyIter = PI
      wp_walk
      subst it
      apply wpAny_pyIter_list il1
      apply wpAny_bind; apply wpAny_runValue
      have lp : p < s.heap.objs.size := Heap.lt_size ho
      have z1 : h1.objs.size = s.heap.objs.size + 1 := Heap.size_push ..
      have np : p ≠ h1.objs.size := by rw [z1]; exact Nat.ne_of_lt (Nat.lt_succ_of_lt lp)
      have nS : s.heap.objs.size ∉ [h1.objs.size, p] := by simp only [List.mem_cons, List.not_mem_nil, or_false, not_or]; exact ⟨by rw [z1]; exact Nat.ne_of_lt (Nat.lt_succ_self _), Nat.ne_of_gt lp⟩
      have nh3 : A.in1.in1.in1.handled = none := by simp [nh]
      have vals : ∀ (i : Nat) (v : Value), us[i]? = some v → ∃ k t, ks[i]? = some k ∧ v = .int k t := fun i v hv => by
        have li : i < ks.length := by rw [← sz]; exact (Array.getElem?_eq_some_iff.mp hv).1
        obtain ⟨t, e⟩ := PyProof.Rows.IntsAre.int_at iu i v (by rwa [Array.getElem?_toList])
        exact ⟨ks[i], t, List.getElem?_eq_getElem li, by rw [e, List.getD_eq_getElem?_getD, List.getElem?_eq_getElem li]; rfl⟩
      apply set_update_ints ((Walks.list nh3 _ p np us).toS) s.heap.objs.size nS ks sz room vals (us.size - 0) 0 _ (by omega) (Nat.zero_le _) ⟨⟨_, Heap.get?_push_size _ rfl, rfl, rfl⟩, il1.push _⟩
      · exact ⟨0, Nat.le_refl 0, setR_new_at (Heap.get?_push_of_some (itr0 p) new1)⟩
      · rintro ⟨g, ge, dr, tk, os⟩ c hm _ hS
        have e1 : ge = s.gens := hm.gens
        have e2 : dr = s.drawn := hm.drawn
        have e3 : os = s.os := hm.os
        subst e1 e2 e3
        change wpAny _ _ _ _ _ _
        apply wpAny_pure
        change wpAny _ _ (ret Value.none) _ _ _
        refine wpAny_pure ⟨rfl, g, tk, c, rfl, hS, fun b o e => ?_⟩
        have lb : b < s.heap.objs.size := Heap.lt_size e
        exact hm.heap b o (by simp only [List.mem_cons, List.not_mem_nil, or_false, not_or]; exact ⟨Nat.ne_of_lt lb, by rw [z1]; exact Nat.ne_of_lt (Nat.lt_succ_of_lt lb)⟩) (Heap.get?_push_of_some (itr0 p) (Heap.get?_push_of_some (set0 w) e))
end
end DL

set_option maxHeartbeats 2000000
namespace DL
open PySem PySem.Spec L2
open PyProof.Rows hiding St

/-! ### rising lists of ints -/
def rise (l : List Int) : List Int := l.mergeSort fun a b => decide (a ≤ b)
theorem rise_perm (l : List Int) : (rise l).Perm l := List.mergeSort_perm ..
theorem rise_le (l : List Int) : (rise l).Pairwise (· ≤ ·) := by
  have := List.pairwise_mergeSort (le := fun a b : Int => decide (a ≤ b)) (fun a b c h1 h2 => by simp only [decide_eq_true_eq] at *; omega) (fun a b => by simp only [Bool.or_eq_true, decide_eq_true_eq]; omega) l
  exact this.imp fun h => by simpa using h
theorem rise_eq {l m : List Int} (p : m.Perm l) (h : m.Pairwise (· ≤ ·)) : m = rise l :=
  List.Perm.eq_of_pairwise (le := fun a b : Int => a ≤ b) (fun a b _ _ h1 h2 => by omega) h (rise_le l) (p.trans (rise_perm l).symm)
theorem mem_rise {l : List Int} {k : Int} : k ∈ rise l ↔ k ∈ l := (rise_perm l).mem_iff
theorem rise_len (l : List Int) : (rise l).length = l.length := (rise_perm l).length_eq
/-- each once -/
def once : List Int → List Int
  | [] => []
  | a :: l => if a ∈ l then once l else a :: once l
theorem mem_once {k : Int} : ∀ {l : List Int}, k ∈ once l ↔ k ∈ l
  | [] => Iff.rfl
  | a :: l => by
    unfold once
    split
    · rename_i h
      rw [mem_once, List.mem_cons]
      exact ⟨.inr, fun z => z.elim (fun e => e ▸ h) id⟩
    · rw [List.mem_cons, List.mem_cons, mem_once]
theorem once_nodup : ∀ l : List Int, (once l).Nodup
  | [] => List.nodup_nil
  | a :: l => by
    unfold once
    split
    · exact once_nodup l
    · rename_i h
      exact List.nodup_cons.mpr ⟨fun z => h (mem_once.mp z), once_nodup l⟩
/-- rising, each once -/
def rset (l : List Int) : List Int := rise (once l)
theorem mem_rset {l : List Int} {k : Int} : k ∈ rset l ↔ k ∈ l := by unfold rset; rw [mem_rise, mem_once]
theorem rset_nodup (l : List Int) : (rset l).Nodup := (rise_perm _).nodup_iff.mpr (once_nodup l)
theorem rset_lt (l : List Int) : (rset l).Pairwise (· < ·) := by
  have h1 := rise_le (once l)
  have h2 : (rset l).Pairwise (· ≠ ·) := rset_nodup l
  exact List.Pairwise.imp₂ (R := (· ≤ ·)) (S := (· ≠ ·)) (fun _ _ a b => by omega) h1 h2
theorem nodup_eq {l m : List Int} (hl : l.Nodup) (hm : m.Nodup) (h : ∀ k, k ∈ l ↔ k ∈ m) : l.length = m.length := ((List.perm_ext_iff_of_nodup hl hm).mpr h).length_eq
theorem rset_eq {l m : List Int} (h : m.Pairwise (· < ·)) (e : ∀ k, k ∈ m ↔ k ∈ l) : m = rset l := by
  have nd : m.Nodup := h.imp fun z => by omega
  refine rise_eq ((List.perm_ext_iff_of_nodup nd (once_nodup l)).mpr fun k => by rw [mem_once]; exact e k) (h.imp fun z => by omega)
/-- numbers below n, each once: at most n -/
theorem few_below : ∀ (n : Nat) (l : List Int), l.Nodup → (∀ k ∈ l, 0 ≤ k ∧ k < n) → l.length ≤ n
  | 0, l, _, h => by
    cases l with
    | nil => exact Nat.le_refl _
    | cons a l => have := h a (by simp); omega
  | n + 1, l, nd, h => by
    have h1 := few_below n (l.erase (n : Int)) (nd.erase _) fun k hk => by
      have h2 := h k (List.mem_of_mem_erase hk)
      have h3 : k ≠ (n : Int) := fun e => by
        subst e
        exact (List.Nodup.not_mem_erase nd) hk
      omega
    rw [List.length_erase] at h1
    split at h1 <;> omega
/-! ### set(xs) -/
def rSetI (K : PySem.W.Frag) (w : World) : List V → Hp → VK → Prop := fun vs H Q => ∃ (p : Addr) (ks : List Int), vs = [.ref p] ∧ SqL K H p (ks.map V.int) ∧ ks.length ≤ 1000 ∧
  ∀ (a : Addr) (n : Nat), n = (rset ks).length → H a = none → Q (.ref a) (upd H a (SetO w a (fun j => decide (j ∈ ks)) n))
theorem cr_setI {X : Cx} (hc : X.calm = true) : CallR X (.type "set") (rSetI X.K X.w) := by
  intro pins s σ H vs us Q I r h
  obtain ⟨p, ks, rfl, hs, hl, q⟩ := h
  obtain ⟨its, rv, hp, hz⟩ := I.list hs
  rw [Vals.ref1 r]
  have hi := rv.ints
  have hil : its.length = ks.length := IntsAre.length hi
  refine call_set_ints (us := its.toArray) ks (I.ok.hd hc) hp.isList (by simpa using hi) (by unfold scanBound; omega) fun g tk c hS hk => ?_
  have hn : H s.heap.objs.size = none := I.hok.fresh (Nat.le_refl _)
  have hcn : c = (rset ks).length := by
    obtain ⟨o, es, ep, t, _, _, _, _, nd, hm, _, _, hsz, _⟩ := hS
    have e : (es.toList.map L2.keyOf).length = c := by simpa using hsz
    rw [← e]
    exact nodup_eq nd (rset_nodup ks) fun k => by rw [← hm k, mem_rset]; simp
  exact ⟨.ref _, upd H s.heap.objs.size (SetO X.w s.heap.objs.size (fun j => decide (j ∈ ks)) c), I.laid (t' := tk) (fun b u e => hk b u e) (Nat.le_refl _) (setO_new hS), rfl, q _ c hcn hn⟩
/-! ### sorted(set(xs)) -/
@[simp] def ssetP (ds : List D) (ms : MS) : Res D := match ds with
  | [d] => match (rlOf ms d).bind intsOf with
    | some ns => if ns.length ≤ 1000 ∧ (rset ns).length < 64 then .ok (.lst ((rset ns).map D.int)) ms else .bad
    | none => .bad
  | _ => .bad
theorem ints_rp {K : PySem.W.Frag} {ι : Ct} {H : Hp} {ds : List D} {xs : List V} {ns : List Int} (e : intsOf ds = some ns) (r : Rps K ι H ds xs) : xs = ns.map V.int := by
  rw [intsOf_eq e] at r
  exact r.ints
theorem newL {K : PySem.W.Frag} {E : EW} {ι : Ct} {H : Hp} {ms : MS} {Q : VK} {ns : List Int} (R : Rel K ι H ms) (o : Out K E (Rp K) ι H (.ok (.lst (ns.map D.int)) ms) Q) {ι' : Ct} {H' : Hp} (R' : Rel K ι' H' ms) (l : Le ι H ι' H') {p : Addr} (hp : H' p = none) : Q (.ref p) (upd H' p (.lst (ns.map V.int))) := by
  refine o _ ι' _ (R'.new hp) (l.trans (Le.new R' hp)) ⟨p, ns.map V.int, rfl, upd_same, R'.fresh hp, Rps.ofInts⟩
section
variable {X : Cx} {E : EW} {e : Expr} {es : List Expr} {fs : Env → MS → Res (List D)} {p p2 q pos : Pos}
theorem d_sset (hc : X.calm = true) (hg : Gl X "sorted") (hm : X.mg "sorted" = none) (hg2 : Gl X "set") (hm2 : X.mg "set" = none) (ha : DA X E [e] fs) (hs : starEach [e] X.env = [(false, eval e X.env)] := by rfl) (hs2 : starEach [.Call (.Name "set" p2) [e] [] q] X.env = [(false, eval (.Call (.Name "set" p2) [e] [] q) X.env)] := by rfl) :
    DE X E (.Call (.Name "sorted" p) [.Call (.Name "set" p2) [e] [] q] [] pos) (appE fs ssetP) := by
  have z := pe_callB (pos := pos) (p := p) (cr_sortedSet hc) hg hm (by decide +kernel) (pa_cons (pe_callTy (pos := q) (p := p2) (cr_setI hc) hg2 hm2 (by decide +kernel) ha (he := hs)) pa_nil) (he := hs2)
  refine PE.conv z fun σ H Q ⟨ι, env, ms, r, ev, o⟩ => ?_
  have o' : tR X.K E (Rps X.K) fs σ H fun vs H1 => rSetI X.K X.w vs H1 fun x H2 => rSortedSet X.w [x] H2 Q := tR_seq r ev o fun ι1 H1 ms1 ds vs B o1 => by
    match ds, B.r, o1 with
    | [], _, o1 => exact o1.elim
    | _ :: _ :: _, _, o1 => exact o1.elim
    | [d], rd, o1 =>
      obtain ⟨v, rfl, rd1⟩ := Rps.one rd
      cases c1 : rlOf ms1 d with
      | none => simp only [ssetP, c1, Option.bind_none] at o1; exact o1.elim
      | some xs =>
        cases c2 : intsOf xs with
        | none => simp only [ssetP, c1, Option.bind_some, c2] at o1; exact o1.elim
        | some ns =>
          simp only [ssetP, c1, Option.bind_some, c2] at o1
          by_cases hl : ns.length ≤ 1000 ∧ (rset ns).length < 64
          · rw [if_pos hl] at o1
            obtain ⟨a, ys, rfl, rs, hq⟩ := B.rel.rl c1 rd1
            rw [ints_rp c2 rs] at hq
            refine ⟨a, ns, rfl, hq, hl.1, fun b n hn hb => ⟨b, _, n, rfl, upd_same, by omega, fun ms' l h1 h2 h3 hl' => ?_⟩⟩
            have hr : ms' = rset ns := rset_eq h1 fun k => by rw [h2 k]; simp
            subst hr
            exact newL B.rel o1 (B.rel.new hb) (Le.new B.rel hb) hl'
          · rw [if_neg hl] at o1; exact o1.elim
  exact o'
/-! ### sorted(d), sorted(xs), min(xs) -/
def keysI : List (Key × D) → Option (List Int)
  | [] => some []
  | (.inl k, _) :: r => (keysI r).map (k :: ·)
  | (.inr _, _) :: _ => none
theorem keysI_eq : ∀ {kvs : List (Key × D)} {ks : List Int}, keysI kvs = some ks → kvs.map (·.1) = ks.map Sum.inl
  | [], _, h => by cases h; rfl
  | (.inl k, _) :: r, ks, h => by
    unfold keysI at h
    cases c : keysI r with
    | none => rw [c] at h; cases h
    | some l =>
      rw [c] at h
      cases h
      rw [List.map_cons, List.map_cons, keysI_eq c]
  | (.inr _, _) :: _, _, h => by cases h
@[simp] def sortP (ds : List D) (ms : MS) : Res D := match ds with
  | [d] => match cellK ms d with
    | some (_, kvs) => match keysI kvs with
      | some ks => if ks.length < 64 then .ok (.lst ((rise ks).map D.int)) ms else .bad
      | none => .bad
    | none => match (rlOf ms d).bind intsOf with
      | some ns => .ok (.lst ((rise ns).map D.int)) ms
      | none => .bad
  | _ => .bad
theorem p_sort {K : PySem.W.Frag} {E : EW} : PC1 K E (fun xs H Q => (∃ (a : Addr) (kvs : List (Key × V)) (ks : List Int), xs = [.ref a] ∧ Rd H a (.dK kvs) ∧ kvs.map (·.1) = ks.map Sum.inl ∧ ks.length < 64 ∧
    ∀ (ys : List Int) (p : Addr), ys.Perm ks → ys.Pairwise (· ≤ ·) → H p = none → Q (.ref p) (upd H p (.lst (ys.map V.int)))) ∨ rSortedI K xs H Q) sortP := by
  intro ι H ms ds vs Q R r o
  match ds, r, o with
  | [], _, o1 => exact o1.elim
  | _ :: _ :: _, _, o1 => exact o1.elim
  | [d], r, o =>
    obtain ⟨v, rfl, rd⟩ := Rps.one r
    cases c : cellK ms d with
    | some z =>
      obtain ⟨n, kvs⟩ := z
      simp only [sortP, c] at o
      cases c2 : keysI kvs with
      | none => simp only [c2] at o; exact o.elim
      | some ks =>
        simp only [c2] at o
        by_cases hl : ks.length < 64
        · rw [if_pos hl] at o
          obtain ⟨p, us, rfl, hn, h1, hk⟩ := R.cellK c rd
          refine .inl ⟨p, us, ks, rfl, .inl h1, by rw [hk.ks]; exact keysI_eq c2, hl, fun ys q h1 h2 h3 => ?_⟩
          have e := rise_eq h1 h2
          subst e
          exact newL R o R .refl h3
        · rw [if_neg hl] at o; exact o.elim
    | none =>
      simp only [sortP, c] at o
      cases c1 : rlOf ms d with
      | none => simp only [c1, Option.bind_none] at o; exact o.elim
      | some xs =>
        cases c2 : intsOf xs with
        | none => simp only [c1, Option.bind_some, c2] at o; exact o.elim
        | some ns =>
          simp only [c1, Option.bind_some, c2] at o
          obtain ⟨a, ys, rfl, rs, hq⟩ := R.rl c1 rd
          rw [ints_rp c2 rs] at hq
          refine .inr ⟨a, ns, rfl, hq, fun ys q h1 h2 h3 => ?_⟩
          have e := rise_eq h1 h2
          subst e
          exact newL R o R .refl h3
theorem d_sort (hc : X.calm = true) (hg : Gl X "sorted") (hm : X.mg "sorted" = none) (ha : DA X E (e :: es) fs)
    (he : starEach (e :: es) X.env = (false, eval e X.env) :: starEach es X.env := by rfl) (hpl : (backTo pos (starEach es X.env)).any (·.1) = false := by rfl) : DE X E (.Call (.Name "sorted" p) (e :: es) [] pos) (appE fs sortP) :=
  d_blt ((call_sortedDI hc).or cr_sortedI) p_sort hg hm (by decide +kernel) ha (he := he) (hpl := hpl)
@[simp] def minP : List D → MS → Res D := lst1 intsOf fun ns ms => match ns.min? with
  | some m => .ok (.int m) ms
  | none => .bad
theorem p_min {K : PySem.W.Frag} {E : EW} : PC1 K E (rMin K) minP := fun ι H ms ds vs Q R r o => by
  obtain ⟨a, xs, es, bs, rfl, hq, rs, e, o'⟩ := lst1_ok R r o
  rw [intsOf_eq e] at rs
  rw [rs.ints] at hq
  cases hm : bs.min? with
  | none => simp only [hm] at o'; exact o'.elim
  | some m =>
    simp only [hm] at o'
    have h1 := List.min?_mem hm
    refine ⟨a, bs, rfl, hq, List.length_pos_of_mem h1, fun m' hm' hle => ?_⟩
    have h2 : m ≤ m' := (List.min?_eq_some_iff.mp hm).2 m' hm'
    have h3 := hle m h1
    have e : m' = m := by omega
    subst e
    exact o' _ ι H R .refl rfl
end
end DL

set_option maxHeartbeats 1000000
namespace DL
open PySem PySem.Spec L2
open PyProof.Rows hiding St

/-! ### *xs in a display, pop(i), reverse, list(x), dict(d), len(d) -/
@[simp] def starA (f : Env → MS → Res D) (g : Env → MS → Res (List D)) (env : Env) (ms : MS) : Res (List D) := (f env ms).bind fun a ms1 => match seqOf ms1 a with
  | some ds => (g env ms1).bind fun r ms2 => .ok (ds ++ r) ms2
  | none => .bad
@[simp] def popAtM (fo fi : Env → MS → Res D) (env : Env) (ms : MS) : Res D := (fo env ms).bind fun o ms1 => match cellL ms1 o with
  | none => .bad
  | some _ => (fi env ms1).bind fun i ms2 => match cellL ms2 o with
    | some (n, ds) => match i with
      | .int k => if 0 ≤ k ∧ k < 2 ^ 62 then match ds[k.toNat]? with
        | some y => .ok y (ms2.set n (.lst (ds.eraseIdx k.toNat)))
        | none => .bad else .bad
      | _ => .bad
    | none => .bad
@[simp] def revM (fo : Env → MS → Res D) (env : Env) (ms : MS) : Res D := (fo env ms).bind fun o ms1 => match cellL ms1 o with
  | some (n, ds) => .ok .non (ms1.set n (.lst ds.reverse))
  | none => .bad
@[simp] def listP (mk : List D → MS → Res D) (ds : List D) (ms : MS) : Res D := match ds with
  | [d] => match seqOf ms d with
    | some xs => mk xs ms
    | none => .bad
  | _ => .bad
@[simp] def dcopyP (ds : List D) (ms : MS) : Res D := match ds with
  | [d] => match cellK ms d with
    | some (_, kvs) => .ok (.ptr ms.length) (ms ++ [.dK kvs])
    | none => .bad
  | _ => .bad
@[simp] def lenDP (ds : List D) (ms : MS) : Res D := match ds with
  | [d] => match cellK ms d with
    | some (_, kvs) => .ok (.int (kvs.length : Int)) ms
    | none => .bad
  | _ => .bad
section
variable {X : Cx} {E : EW} {o e i : Expr} {es : List Expr} {fo fi fe : Env → MS → Res D} {fs : Env → MS → Res (List D)} {apos pos p : Pos}
theorem a_star (he : DE X E e fe) (hr : DA X E es fs) (hs : starEach (.Starred e p :: es) X.env = (true, eval e X.env) :: starEach es X.env := by rfl) : DA X E (.Starred e p :: es) (starA fe fs) :=
  PA.conv (StX.pa_star he hr hs) fun σ H Q ⟨ι, env, ms, r0, ev, q⟩ => by
    refine tR_seq r0 ev q fun ι1 H1 ms1 d x B1 o1 => ?_
    cases c : seqOf ms1 d with
    | none => simp only [c] at o1; exact o1.elim
    | some ds =>
      simp only [c] at o1
      obtain ⟨a, xs, rfl, rs, hq⟩ := B1.rel.seq c B1.r
      refine ⟨a, xs, rfl, hq.symm, ?_⟩
      refine tR_seq B1.rel B1.env o1 fun ι2 H2 ms2 r ys B2 o2 => ?_
      exact o2 _ ι2 H2 B2.rel .refl ((Rps.mono B2.le _ _ rs).append B2.r)
theorem d_popAt (ho : DE X E o fo) (hi : DE X E i fi) (hbase : attributeBase o "pop" X.env (eval o X.env) = eval o X.env := by rfl)
    (hfew : (((backTo pos (starEach [i] X.env)).all fun x => !x.1) && (backToKw pos (keywordEach [] X.env)).all (·.1.isSome) && decide ([i].length + ([] : List Keyword).length + (if ([] : List Keyword).isEmpty then 0 else 1) < 30)) = true := by rfl)
    (hline : (apos.endLine == pos.line) = true := by rfl) (hs : starEach [i] X.env = (false, eval i X.env) :: starEach [] X.env := by rfl) (hplain : (backTo pos (starEach [] X.env)).any (·.1) = false := by rfl) :
    DE X E (.Call (.Attribute o "pop" apos) [i] [] pos) (popAtM fo fi) :=
  PE.conv (pe_bm PySem.F.plainAttrs_list PySem.F.slot_list_pop PySem.F.type_list_pop mt_popAt ho (a_cons hi a_nil hs) (hbase := hbase) (hfew := hfew) (hline := hline) (hs := hs) (hplain := hplain)) fun σ H Q ⟨ι, env, ms, r, ev, q⟩ => by
    refine tR_seq r ev q fun ι1 H1 ms1 d x B o1 => ?_
    cases q1 : cellL ms1 d with
    | none => simp only [q1] at o1; exact o1.elim
    | some z =>
      obtain ⟨n, ds⟩ := z
      simp only [q1] at o1
      obtain ⟨p, xs, rfl, hn, h1, h2⟩ := B.rel.cellL q1 B.r
      refine ⟨seq_tyL h1, ι1, env, ms1, B.rel, B.env, ?_⟩
      unfold consA
      cases q2 : fi env ms1 with
      | bad => simp only [q2] at o1; exact o1
      | exc y ms2 => simp only [q2] at o1; exact o1
      | ok y ms2 =>
        simp only [q2, bind_ok] at o1
        simp only [bind_ok, nilA]
        intro vs ι2 H2 R2 l2 rv
        obtain ⟨v, rfl, ry⟩ := rv.one
        cases q3 : cellL ms2 d with
        | none => simp only [q3] at o1; exact o1.elim
        | some z =>
          obtain ⟨m, es⟩ := z
          simp only [q3] at o1
          obtain ⟨p', ys, e1, hm, h3, h4⟩ := R2.cellL q3 (Rp.mono l2 _ _ B.r)
          cases e1
          cases y with
          | int k =>
            simp only at o1
            by_cases hk : 0 ≤ k ∧ k < 2 ^ 62
            · rw [if_pos hk] at o1
              cases q4 : es[k.toNat]? with
              | none => simp only [q4] at o1; exact o1.elim
              | some y =>
                simp only [q4] at o1
                obtain ⟨w, e5, rw'⟩ := h4.get q4
                have hlt := (List.getElem?_eq_some_iff.mp e5).1
                have wr := Le.write (o := .lst (ys.eraseIdx k.toNat)) R2 hm
                have hix : seqIndex? k ys.length = some k.toNat := by
                  unfold seqIndex?
                  simp
                  omega
                have re : Rps X.K ι2 H2 (es.eraseIdx k.toNat) (ys.eraseIdx k.toNat) := by
                  rw [List.eraseIdx_eq_take_drop_succ, List.eraseIdx_eq_take_drop_succ]
                  exact (h4.take _).append (h4.drop _)
                refine ⟨p, ys, k, k.toNat, w, rfl, ?_, h3, by omega, by omega, hix, e5, ?_⟩
                · have : v = .int k := ry
                  rw [this]
                · exact o1 _ ι2 _ (R2.write hm ⟨_, upd_same, Rps.mono wr _ _ re⟩) (l2.trans wr) (Rp.mono wr _ _ rw')
            · rw [if_neg hk] at o1; exact o1.elim
          | _ => exact o1.elim
theorem d_rev (ho : DE X E o fo) (hbase : attributeBase o "reverse" X.env (eval o X.env) = eval o X.env := by rfl)
    (hline : (apos.endLine == pos.line) = true := by rfl) : DE X E (.Call (.Attribute o "reverse" apos) [] [] pos) (revM fo) :=
  PE.conv (pe_bm0 PySem.F.plainAttrs_list PySem.F.slot_list_reverse PySem.F.type_list_reverse mt_reverse ho (hbase := hbase) (hline := hline)) fun σ H Q ⟨ι, env, ms, r, ev, q⟩ => by
    refine tR_seq r ev q fun ι1 H1 ms1 d x B o1 => ?_
    cases q1 : cellL ms1 d with
    | none => simp only [q1] at o1; exact o1.elim
    | some z =>
      obtain ⟨n, ds⟩ := z
      simp only [q1] at o1
      obtain ⟨p, xs, rfl, hn, h1, h2⟩ := B.rel.cellL q1 B.r
      have w := Le.write (o := .lst xs.reverse) B.rel hn
      exact ⟨seq_tyL h1, p, xs, rfl, rfl, h1, o1 _ ι1 _ (B.rel.write hn ⟨_, upd_same, Rps.mono w _ _ h2.reverse⟩) w rfl⟩
theorem p_list {mk : List D → MS → Res D} {K : PySem.W.Frag} {E : EW} (hmk : ∀ (ι : Ct) (H : Hp) (ms : MS) (ds : List D) (xs : List V) (Q : VK), Rel K ι H ms → Rps K ι H ds xs → Out K E (Rp K) ι H (mk ds ms) Q → xs.length ≤ sizeLine ∧ ∀ p, H p = none → Q (.ref p) (upd H p (.lst xs))) :
    PC1 K E (fun xs H Q => ∃ p ys, xs = [.ref p] ∧ (SqL K H p ys ∨ SqT K H p ys) ∧ ∀ l, H l = none → Q (.ref l) (upd H l (.lst ys))) (listP mk) := by
  intro ι H ms ds vs Q R r o
  match ds, r, o with
  | [], _, o1 => exact o1.elim
  | _ :: _ :: _, _, o1 => exact o1.elim
  | [d], r, o =>
    obtain ⟨v, rfl, rd⟩ := Rps.one r
    cases c : seqOf ms d with
    | none => simp only [listP, c] at o; exact o.elim
    | some xs =>
      simp only [listP, c] at o
      obtain ⟨a, ys, rfl, rs, hq⟩ := R.seq c rd
      exact ⟨a, ys, rfl, hq, (hmk ι H ms xs ys Q R rs o).2⟩
theorem d_list (hg : Gl X "list") (hm : X.mg "list" = none) (ha : DA X E (e :: es) fs)
    (he : starEach (e :: es) X.env = (false, eval e X.env) :: starEach es X.env := by rfl) (hpl : (backTo pos (starEach es X.env)).any (·.1) = false := by rfl) : DE X E (.Call (.Name "list" p) (e :: es) [] pos) (appE fs (listP mkLst)) :=
  d_bty call_list_of (p_list fun ι H ms ds xs Q R r o => mkLst_ok R r o) hg hm (by decide +kernel) ha (he := he) (hpl := hpl)
theorem d_listM (hg : Gl X "list") (hm : X.mg "list" = none) (ha : DA X E (e :: es) fs)
    (he : starEach (e :: es) X.env = (false, eval e X.env) :: starEach es X.env := by rfl) (hpl : (backTo pos (starEach es X.env)).any (·.1) = false := by rfl) : DE X E (.Call (.Name "list" p) (e :: es) [] pos) (appE fs (listP mkMut)) :=
  d_bty call_list_of (p_list fun ι H ms ds xs Q R r o => mkMut_ok R r o) hg hm (by decide +kernel) ha (he := he) (hpl := hpl)
theorem p_dcopy {K : PySem.W.Frag} {E : EW} : PC1 K E (fun xs H Q => ∃ (a : Addr) (kvs : List (Key × V)), xs = [.ref a] ∧ Rd H a (.dK kvs) ∧ ∀ p, H p = none → Q (.ref p) (upd H p (.dK kvs))) dcopyP := by
  intro ι H ms ds vs Q R r o
  match ds, r, o with
  | [], _, o1 => exact o1.elim
  | _ :: _ :: _, _, o1 => exact o1.elim
  | [d], r, o =>
    obtain ⟨v, rfl, rd⟩ := Rps.one r
    cases c : cellK ms d with
    | none => simp only [dcopyP, c] at o; exact o.elim
    | some z =>
      obtain ⟨n, kvs⟩ := z
      simp only [dcopyP, c] at o
      obtain ⟨a, us, rfl, hn, h1, hk⟩ := R.cellK c rd
      refine ⟨a, us, rfl, .inl h1, fun q hq => ?_⟩
      have l := Le.newM (o := .dK us) R hq
      have hk2 := hk.mono l
      refine o _ (ι.push q) _ (R.newM hq ⟨us, upd_same, hk2.ks, hk2.rs⟩) l ⟨q, rfl, ?_⟩
      show (ι.a ++ [q])[ms.length]? = some q
      rw [← R.len, List.getElem?_append_right (Nat.le_refl _)]
      simp
theorem d_dcopy (hg : Gl X "dict") (hm : X.mg "dict" = none) (ha : DA X E (e :: es) fs)
    (he : starEach (e :: es) X.env = (false, eval e X.env) :: starEach es X.env := by rfl) (hpl : (backTo pos (starEach es X.env)).any (·.1) = false := by rfl) : DE X E (.Call (.Name "dict" p) (e :: es) [] pos) (appE fs dcopyP) :=
  d_bty call_dictD p_dcopy hg hm (by decide +kernel) ha (he := he) (hpl := hpl)
theorem p_lenD {K : PySem.W.Frag} {E : EW} : PC1 K E (fun xs H Q => ∃ a kvs, xs = [V.ref a] ∧ H a = some (.dK kvs) ∧ Q (.int kvs.length) H) lenDP := by
  intro ι H ms ds vs Q R r o
  match ds, r, o with
  | [], _, o1 => exact o1.elim
  | _ :: _ :: _, _, o1 => exact o1.elim
  | [d], r, o =>
    obtain ⟨v, rfl, rd⟩ := Rps.one r
    cases c : cellK ms d with
    | none => simp only [lenDP, c] at o; exact o.elim
    | some z =>
      obtain ⟨n, kvs⟩ := z
      simp only [lenDP, c] at o
      obtain ⟨a, us, rfl, hn, h1, hk⟩ := R.cellK c rd
      refine ⟨a, us, rfl, h1, ?_⟩
      rw [hk.len]
      exact o _ ι H R .refl rfl
theorem d_lenD (hg : Gl X "len") (hm : X.mg "len" = none) (ha : DA X E (e :: es) fs)
    (he : starEach (e :: es) X.env = (false, eval e X.env) :: starEach es X.env := by rfl) (hpl : (backTo pos (starEach es X.env)).any (·.1) = false := by rfl) : DE X E (.Call (.Name "len" p) (e :: es) [] pos) (appE fs lenDP) :=
  d_blt call_lenD p_lenD hg hm (by decide +kernel) ha (he := he) (hpl := hpl)
end
/-! ### o.f = .. within a tuple of targets -/
def gFld (K : PySem.W.Frag) (to : TE) (f : Str) : TG := fun v σ H Q => to σ H fun x H1 => ∃ a C dx fs, x = .ref a ∧ H1 a = some (.ins C dx fs) ∧ Cls K C ∧ NoAttr K C f ∧ fs.length < 1000 ∧ Q σ (upd H1 a (.ins C dx (putF f v fs)))
@[simp] def fldT (nm f : Str) (fo : Env → MS → Res D) : TF := fun d env ms => (fo env ms).bind fun o ms1 => match objOf nm ms1 o with
  | some (n, fs) => if fs.length < 1000 then .ok env (ms1.set n (.obj nm (putFD f d fs))) else .bad
  | none => .bad
section
variable {X : Cx} {E : EW} {o : Expr} {nm f : Str} {fl : List Str} {pos : Pos} {fo : Env → MS → Res D} {to : TE}
theorem pg_fld (ho : PE X o to) : PG X (.Attribute o f pos) (gFld X.K to f) := by
  refine ⟨fun pins s σ H v u Q I r h => ?_⟩
  rw [assign_Attribute]
  refine wpAny_bind (wpAny_holding (thn (ho.run pins s σ H _ I h) fun ov s1 ⟨x, H1, I1, rx, a, C, dx, fs, ex, ea, c, n, l, q2⟩ => ?_))
  subst ex
  obtain rfl : ov = Value.ref a := rx
  refine wpAny_bind (wpAny_standAt (wpAny_bind (wpAny_holding (setattr_ok I1 ea c n l r fun s3 I3 => ?_))))
  exact wpAny_release ⟨σ, _, I3, q2⟩
theorem g_fld (T : KC X.K X.mg nm fl) (hf : f ∈ fl) (ho : DE X E o fo) : DG X E (.Attribute o f pos) (fldT nm f fo) :=
  PG.conv (pg_fld ho) fun v σ H Q ⟨ι, env, ms, d, r, ev, rd, q⟩ => by
    have q' : OutT X.K E ι H ((fo env ms).bind fun o ms1 => match objOf nm ms1 o with | some (n, fs) => if fs.length < 1000 then .ok env (ms1.set n (.obj nm (putFD f d fs))) else .bad | none => .bad) Q := q
    refine ⟨ι, env, ms, r, ev, ?_⟩
    cases e : fo env ms with
    | bad => rw [e] at q'; exact q'
    | exc x ms1 => rw [e] at q'; exact q'
    | ok o1 ms1 =>
      rw [e] at q'
      simp only [bind_ok] at q'
      intro x ι1 H1 R1 l1 rx
      cases c : objOf nm ms1 o1 with
      | none => simp only [c] at q'; exact q'.elim
      | some z =>
        obtain ⟨j, fs⟩ := z
        simp only [c] at q'
        obtain ⟨_, a, dx, vs, rfl, hn, h1, hk⟩ := Rel.objOf T R1 c rx
        by_cases hl : fs.length < 1000
        · rw [if_pos hl] at q'
          have w := Le.write (o := .ins T.C dx (putF f v vs)) R1 hn
          have rv := Rp.mono l1 _ _ rd
          have h2 := (hk.put (f := f) rv).mono w
          exact ⟨a, T.C, dx, vs, rfl, h1, T.cl, T.no f hf, by rw [hk.len]; exact hl, q' σ ι1 _ (R1.write hn ⟨T.C, dx, _, T.ns, upd_same, h2.ks, h2.rs⟩) (l1.trans w) ((ev.mono l1).mono w)⟩
        · rw [if_neg hl] at q'; exact q'.elim
end
end DL

set_option maxHeartbeats 2000000
namespace DL
open PySem PySem.Spec L2
open PyProof.Rows hiding St

/-! ### sorted(d), int keys, any number of them -/
theorem call_sortedDX {X : Cx} (calm : X.calm = true) : CallR X (.builtin "sorted") (fun xs H Q => ∃ (a : Addr) (kvs : List (Key × V)) (ks : List Int), xs = [.ref a] ∧ H a = some (.dK kvs) ∧ kvs.map (·.1) = ks.map Sum.inl ∧ ks.length ≤ 1000 ∧
    ∀ (ys : List Int) (p : Addr), ys.Perm ks → ys.Pairwise (· ≤ ·) → H p = none → Q (.ref p) (upd H p (.lst (ys.map V.int)))) := by
  rintro pins s σ H xs us Q I r ⟨a, kvs, ks, rfl, hd, hks, few, q⟩
  obtain ⟨u, rfl, rx⟩ := vals1 r
  cases rx
  obtain ⟨zz, low, es, rel, dd⟩ := dk_rd I.hok (.inl hd)
  obtain ⟨ep, hat⟩ := dd.dictAt
  have ek : es.map (·.1) = ks.map Sum.inl := rel.keys.symm.trans hks
  have el : es.length = ks.length := by simpa using congrArg List.length ek
  have e16 : es.length ≤ sizeLine := by rw [el, sizeLine_eq]; omega
  apply Calls.call_function_entry PyProof.Rows.kind_sorted PyProof.Rows.plain_sorted PyProof.Rows.entry_sorted (PyProof.Rows.args_sorted1 _)
  unfold Builtin.«sorted»
  apply wpAny_bind (m := checkCount "sorted" 1 1 _); apply wpAny_pure
  refine wpAny_bind (PySem.W.kdu_collect (A := X.A.in1) (PySem.W.kdl_dict (knd := mixKind X.prog X.w) (kvs := es) (ep := ep) low) (I.ok.hd calm) hat e16 fun g tk acc hk ha => ?_)
  have al : acc.toList.length = ks.length := by rw [Array.length_toList, ha.1, el]
  have ia : IntsAre acc.toList ks := ints_each al fun j v e => by
    obtain ⟨k, y, z1, z2⟩ := ha.2 j v (by rwa [← Array.getElem?_toList])
    have z3 : (es.map (·.1))[j]? = some k := by rw [List.getElem?_map, z1]; rfl
    rw [ek, List.getElem?_map] at z3
    cases z4 : ks[j]? with
    | none => rw [z4] at z3; cases z3
    | some i =>
      rw [z4] at z3
      cases (show Sum.inl i = k from Option.some.inj z3)
      rcases keyIs_shape (show keyIs (Sum.inl i) v = true from z2) with ⟨i2, t, y1, y2⟩ | ⟨_, _, y1, _⟩
      · cases y1; exact ⟨i, t, rfl, y2⟩
      · cases y1
  have I1 : Inv X pins σ H { s with heap := g, toks := tk } := I.kept hk
  have sz : acc.toList.length ≤ sizeLine := by rw [al, sizeLine_eq]; omega
  apply wpAny_bind; apply wpAny_newList ?_ sz
  have ob : (g.push (seqObj "list" acc.toList.toArray 0)).get? g.objs.size = some (seqObj "list" acc.toList.toArray 0) := Heap.get?_push_size _ rfl
  change wpAny _ _ _ _ _ { s with heap := g.push (seqObj "list" acc.toList.toArray 0), toks := tk }
  refine wpAny_bind (wpAny_holding (wpAny_call_entry PyProof.Rows.slot_list_sort ⟨_, ob, rfl⟩ PyProof.Rows.entry_list_sort (SrtO.list_sort_ord SrtO.swo_int ob sz (fun h2 => SrtO.ints_sortable ia h2) fun out w1 w2 => ⟨_, rfl, ?_⟩) (PyProof.Rows.args_list_sort _)))
  obtain ⟨k1, k2, k3⟩ := SrtO.ints_out ia w1 w2
  obtain ⟨e', he'⟩ := PyProof.Rows.sortedHeap_at (vs := acc.toList) (out := out.toArray) ob
  have zl : ((out.map SrtO.iv).map V.int).length ≤ sizeLine := by rw [List.length_map, k2.length_eq, sizeLine_eq]; omega
  refine wpAny_pure ⟨_, rfl, .ref g.objs.size, upd H g.objs.size (.lst ((out.map SrtO.iv).map V.int)), I1.laid (t' := tk) (fun b u e => ?_) (Nat.le_refl _) ⟨zl, out, e', vals_of_ints k1, he'⟩, rfl, q _ _ k2 k3 (I1.hok.fresh (Nat.le_refl _))⟩
  have lb : b ≠ g.objs.size := Nat.ne_of_lt (Heap.lt_size e)
  rw [PyProof.Rows.sortedHeap_old lb (Nat.lt_trans (Heap.lt_size e) (by rw [Heap.size_push]; exact Nat.lt_succ_self _))]
  exact Heap.get?_push_of_some _ e
@[simp] def sortQ (ds : List D) (ms : MS) : Res D := match ds with
  | [d] => match cellK ms d with
    | some (_, kvs) => match keysI kvs with
      | some ks => if ks.length ≤ 1000 then .ok (.lst ((rise ks).map D.int)) ms else .bad
      | none => .bad
    | none => match (rlOf ms d).bind intsOf with
      | some ns => .ok (.lst ((rise ns).map D.int)) ms
      | none => .bad
  | _ => .bad
theorem p_sortQ {K : PySem.W.Frag} {E : EW} : PC1 K E (fun xs H Q => (∃ (a : Addr) (kvs : List (Key × V)) (ks : List Int), xs = [.ref a] ∧ H a = some (.dK kvs) ∧ kvs.map (·.1) = ks.map Sum.inl ∧ ks.length ≤ 1000 ∧
    ∀ (ys : List Int) (p : Addr), ys.Perm ks → ys.Pairwise (· ≤ ·) → H p = none → Q (.ref p) (upd H p (.lst (ys.map V.int)))) ∨ rSortedI K xs H Q) sortQ := by
  intro ι H ms ds vs Q R r o
  match ds, r, o with
  | [], _, o1 => exact o1.elim
  | _ :: _ :: _, _, o1 => exact o1.elim
  | [d], r, o =>
    obtain ⟨v, rfl, rd⟩ := Rps.one r
    cases c : cellK ms d with
    | some z =>
      obtain ⟨n, kvs⟩ := z
      simp only [sortQ, c] at o
      cases c2 : keysI kvs with
      | none => simp only [c2] at o; exact o.elim
      | some ks =>
        simp only [c2] at o
        by_cases hl : ks.length ≤ 1000
        · rw [if_pos hl] at o
          obtain ⟨p, us, rfl, hn, h1, hk⟩ := R.cellK c rd
          refine .inl ⟨p, us, ks, rfl, h1, by rw [hk.ks]; exact keysI_eq c2, hl, fun ys q h1 h2 h3 => ?_⟩
          have e := rise_eq h1 h2
          subst e
          exact newL R o R .refl h3
        · rw [if_neg hl] at o; exact o.elim
    | none =>
      simp only [sortQ, c] at o
      cases c1 : rlOf ms d with
      | none => simp only [c1, Option.bind_none] at o; exact o.elim
      | some xs =>
        cases c2 : intsOf xs with
        | none => simp only [c1, Option.bind_some, c2] at o; exact o.elim
        | some ns =>
          simp only [c1, Option.bind_some, c2] at o
          obtain ⟨a, ys, rfl, rs, hq⟩ := R.rl c1 rd
          rw [ints_rp c2 rs] at hq
          refine .inr ⟨a, ns, rfl, hq, fun ys q h1 h2 h3 => ?_⟩
          have e := rise_eq h1 h2
          subst e
          exact newL R o R .refl h3
theorem d_sortQ {X : Cx} {E : EW} {e : Expr} {es : List Expr} {fs : Env → MS → Res (List D)} {p pos : Pos} (hc : X.calm = true) (hg : Gl X "sorted") (hm : X.mg "sorted" = none) (ha : DA X E (e :: es) fs)
    (he : starEach (e :: es) X.env = (false, eval e X.env) :: starEach es X.env := by rfl) (hpl : (backTo pos (starEach es X.env)).any (·.1) = false := by rfl) : DE X E (.Call (.Name "sorted" p) (e :: es) [] pos) (appE fs sortQ) :=
  d_blt ((call_sortedDX hc).or cr_sortedI) p_sortQ hg hm (by decide +kernel) ha (he := he) (hpl := hpl)
end DL

set_option maxHeartbeats 1000000
namespace DL
open PySem PySem.Spec L2
open PyProof.Rows hiding St

/-! ### objects made with keyword-only parameters: by their defaults, by their names -/
@[simp] def constA (dv : List D) (_ : Env) (ms : MS) : Res (List D) := .ok dv ms
structure CalD (P : Program) (w : World) (K : PySem.W.Frag) (mg : Str → Option Value) (base : Heap) (k : Nat) (nm : Str) (ps : List Str) (sem : List D → MS → Res D) (dv : List D) where
  fl : List Str
  c : KC K mg nm fl
  f : Addr
  fd : FuncData
  ok : FnOk P w K mg base CX0 k f fd ps (dSp K ps.length sem)
  mkc : Mk K c.C f
  ds : List Value
  dvs : List V
  hd : Vals dvs ds
  rp : ∀ ι H, Rps K ι H dv dvs
  b : Binds K fd ps ds
structure CalK (P : Program) (w : World) (K : PySem.W.Frag) (mg : Str → Option Value) (base : Heap) (k : Nat) (nm : Str) (ps ks : List Str) (ix : List Nat) (sem : List D → MS → Res D) where
  fl : List Str
  c : KC K mg nm fl
  f : Addr
  fd : FuncData
  ok : FnOk P w K mg base CX0 k f fd ps (dSp K ps.length sem)
  mkc : Mk K c.C f
  b : KwB K fd ps 1 ks ix
@[simp] def makeKE (nm : Str) (n m : Nat) (ix : List Nat) (fk : Env → MS → Res (List D)) (sem : List D → MS → Res D) (env : Env) (ms : MS) : Res D := (fk env ms).bind fun ds ms1 => if ds.length = m then (callP n sem (pick ix (.ptr ms1.length :: ds)) (ms1 ++ [.obj nm []])).bind fun r ms2 => match r with
  | .non => .ok (.ptr ms1.length) ms2
  | _ => .bad else .bad
section
variable {X : Cx} {E : EW} {k n m : Nat} {ps ks : List Str} {ix : List Nat} {p pos : Pos} {kws : List Keyword} {fk : Env → MS → Res (List D)} {sem : List D → MS → Res D} {dv : List D}
/-- a new object and what stands behind it -/
theorem new_obj {K : PySem.W.Frag} {mg : Str → Option Value} {nm : Str} {fl : List Str} (T : KC K mg nm fl) {ι : Ct} {H : Hp} {ms : MS} (R : Rel K ι H ms) {x dx : Addr} (nx : H x = none) (ndx : H dx = none) (nex : dx ≠ x) :
    Rel K (ι.push x) (upd (upd H dx (.own x)) x (.ins T.C dx [])) (ms ++ [.obj nm []]) ∧ Le ι H (ι.push x) (upd (upd H dx (.own x)) x (.ins T.C dx [])) ∧ (ι.push x).a[ms.length]? = some x := by
  have R2 : Rel K ι (upd H dx (.own x)) ms := R.new ndx
  have l2 : Le ι H ι (upd H dx (.own x)) := Le.new R ndx
  have nx2 : (upd H dx (.own x)) x = none := by rw [upd_ne (fun z => nex z.symm)]; exact nx
  refine ⟨R2.newM nx2 ⟨T.C, dx, [], T.ns, upd_same, rfl, rfl⟩, l2.trans (Le.newM R2 nx2), ?_⟩
  show (ι.a ++ [x])[ms.length]? = some x
  rw [← R.len, List.getElem?_append_right (Nat.le_refl _)]
  simp
theorem made_out {K : PySem.W.Frag} {ι ι1 : Ct} {H H1 : Hp} {x : Addr} {n : Nat} {r : Res D} {Q : VK} (l : Le ι H ι1 H1) (hx : ι1.a[n]? = some x)
    (o : Out K E (Rp K) ι H ((noExc r).bind fun r ms2 => match r with | .non => .ok (.ptr n) ms2 | _ => .bad) Q) : Out K E00 (Rp K) ι1 H1 r (fun v H2 => v = .non ∧ Q (.ref x) H2) := by
  cases r with
  | bad => exact o
  | exc y ms2 => exact o.elim
  | ok a ms2 =>
    intro b ι4 H4 R4 l4 rb
    cases a with
    | non =>
      have rb' : b = .non := rb
      exact ⟨rb', o (.ref x) ι4 H4 R4 (l.trans l4) ⟨x, rfl, l4.at hx⟩⟩
    | _ => exact o.elim
theorem c_make0D {x : Str} (C : CalD X.prog X.w X.K X.mg X.base k x ps sem dv) (hr : Room (k + 1) X.A) (hg : Gl X x := by rfl) (hdb : (x == ("__debug__" : Str)) = false := by decide) (hn : ps.length = n := by rfl) : DE X E (.Call (.Name x p) [] [] pos) (makeE x n (constA dv) sem) := by
  subst hn
  refine PE.conv (pe_make0 C.mkc C.ok hr hg C.c.g C.b C.hd pass0 hdb) fun σ H Q ⟨ι, env, ms, r, ev, q⟩ => ?_
  intro y dx ny ndx ndy
  obtain ⟨R3, l3, hx⟩ := new_obj C.c r ny ndx ndy
  have q' : Out X.K E (Rp X.K) ι H ((callP ps.length sem (.ptr ms.length :: dv) (ms ++ [.obj x []])).bind fun r ms2 => match r with | .non => .ok (.ptr ms.length) ms2 | _ => .bad) Q := q
  unfold callP at q'
  by_cases hl : ((.ptr ms.length :: dv) : List D).length = ps.length
  · rw [if_pos hl] at q'
    exact ⟨ι.push y, ms ++ [.obj x []], .ptr ms.length :: dv, R3, ⟨_, C.dvs, rfl, ⟨y, rfl, hx⟩, C.rp _ _⟩, hl, made_out l3 hx q'⟩
  · rw [if_neg hl] at q'; exact q'.elim
theorem c_makeK {x : Str} (C : CalK X.prog X.w X.K X.mg X.base k x ps ks ix sem) (hr : Room (k + 1) X.A) (hkw : DK X E kws fk) (hg : Gl X x := by rfl)
    (hall : (backToKw pos (keywordEach kws X.env)).all (·.1.isSome) = true := by rfl) (hks : (backToKw pos (keywordEach kws X.env)).filterMap (·.1) = ks := by rfl) (hdb : (x == ("__debug__" : Str)) = false := by decide)
    (hpl : ((backTo pos (starEach [] X.env)).any (·.1) || (backToKw pos (keywordEach kws X.env)).any (·.1.isNone)) = false := by rfl) (hn : ps.length = n := by rfl) (hm : ks.length = m := by rfl) : DE X E (.Call (.Name x p) [] kws pos) (makeKE x n m ix fk sem) := by
  subst hn
  subst hm
  refine PE.conv (pe_makeK0 C.mkc C.ok hr hg C.c.g C.b.kbn pass0 hkw hall hks hdb hpl) fun σ H Q ⟨ι, env, ms, r, ev, q⟩ => ?_
  have q' : Out X.K E (Rp X.K) ι H ((fk env ms).bind fun ds ms1 => if ds.length = ks.length then (callP ps.length sem (pick ix (.ptr ms1.length :: ds)) (ms1 ++ [.obj x []])).bind fun r ms2 => match r with | .non => .ok (.ptr ms1.length) ms2 | _ => .bad else .bad) Q := q
  refine tR_seq r ev q' fun ι1 H1 ms1 ds us B o1 => ?_
  by_cases hd : ds.length = ks.length
  · rw [if_pos hd] at o1
    refine ⟨rfl, by rw [B.r.length]; exact hd, fun y dx ny ndx ndy => ?_⟩
    obtain ⟨R3, l3, hx⟩ := new_obj C.c B.rel ny ndx ndy
    unfold callP at o1
    by_cases hl : (pick ix (.ptr ms1.length :: ds)).length = ps.length
    · rw [if_pos hl] at o1
      have rs : Rps X.K (ι1.push y) (upd (upd H1 dx (.own y)) y (.ins C.c.C dx [])) (.ptr ms1.length :: ds) (.ref y :: us) := ⟨_, us, rfl, ⟨y, rfl, hx⟩, Rps.mono l3 _ _ B.r⟩
      exact ⟨ι1.push y, ms1 ++ [.obj x []], _, R3, pick_rps rs ix, hl, made_out l3 hx o1⟩
    · rw [if_neg hl] at o1; exact o1.elim
  · rw [if_neg hd] at o1; exact o1.elim
end
end DL

set_option maxHeartbeats 2000000
namespace DL
open PySem PySem.Spec L2
open PyProof.Rows hiding St

/-! ### comprehensions of two clauses -/
@[simp] def headOf (T : TF) (t : Env → MS → Res Bool) (env : Env) : D → MS → Res (Option Env) := fun d ms =>
  noExc ((T d env ms).bind fun env1 ms1 => (t env1 ms1).bind fun b ms2 => if b = true then .ok (some env1) ms2 else .ok none ms2)
@[simp] def innerOf (g1 : Env → MS → Res Src) (T1 : TF) (t1 : Env → MS → Res Bool) (f : Env → MS → Res D) (vs1 : List Nat) (env1 : Env) (acc : List D) (ms : MS) : Res (List D) :=
  (noExc (g1 env1 ms)).bind fun s ms1 => noExc (compLoop s.nx (stepOf T1 t1 f (wipeE env1 vs1)) s.n 0 acc ms1)
def compLoop2 (nx : Nat → MS → WOut) (head : D → MS → Res (Option Env)) (inner : Env → List D → MS → Res (List D)) : Nat → Nat → List D → MS → Res (List D)
  | 0, _, _, _ => .bad
  | n + 1, i, acc, ms => match nx i ms with
    | .bad => .bad
    | .stop => .ok acc ms
    | .item d => (head d ms).bind fun o ms1 => match o with
      | none => compLoop2 nx head inner n (i + 1) acc ms1
      | some env1 => (inner env1 acc ms1).bind fun acc1 ms2 => compLoop2 nx head inner n (i + 1) acc1 ms2
@[simp] def compE2 (mk : List D → MS → Res D) (g : Env → MS → Res Src) (T : TF) (t : Env → MS → Res Bool) (g1 : Env → MS → Res Src) (T1 : TF) (t1 : Env → MS → Res Bool) (f : Env → MS → Res D) (vs vs1 : List Nat) (env : Env) (ms : MS) : Res D :=
  (g env ms).bind fun s ms1 => (noExc (compLoop2 s.nx (headOf T t (wipeE env vs)) (innerOf g1 T1 t1 f vs1) s.n 0 [] ms1)).bind fun acc ms2 => mk acc ms2
section
variable {X : Cx} {E : EW}
theorem comp_read2 {mk : List D → MS → Res D} (hmk : EndOk mk) {K : PySem.W.Frag} {g g1 : Env → MS → Res Src} {gg gg1 : TG} {T T1 : TF} {t t1 : Env → MS → Res Bool} {f : Env → MS → Res D} {vs vs1 : List Nat} (tk : TOk K E00 vs gg T) (tk1 : TOk K E00 vs1 gg1 T1)
    {σ : St} {H : Hp} {Q : VK} (h : tD K E (compE2 mk g T t g1 T1 t1 f vs vs1) σ H Q) : tLc2 (tI K E g) gg (tT K E00 t) (tI K E00 g1) gg1 (tT K E00 t1) (tD K E00 f) vs vs1 σ H Q := by
  obtain ⟨ι, env, ms, r, ev, o⟩ := h
  refine ⟨ι, env, ms, r, ev, ?_⟩
  unfold compE2 at o
  cases q : g env ms with
  | bad => rw [q] at o; exact o
  | exc x ms1 => rw [q] at o; exact o
  | ok s ms1 =>
    simp only [q, bind_ok] at o
    intro J ι1 H1 us R1 l1 rs jok D0 h0
    have o := Out.from l1 o
    have hfr := R1.fresh h0
    refine ⟨fun i m H2 => ∃ ι2 ms2 acc xs, Rel K (ι2.ban D0) H2 ms2 ∧ EnvOk K (ι2.ban D0) H2 env σ ∧ Rps K (ι2.ban D0) H2 s.ds us ∧ Rps K (ι2.ban D0) H2 acc xs ∧ H2 D0 = some (.lst xs) ∧ ι2.f = ι1.f ∧ Le ι1 H1 ι2 H2 ∧ Out K E (Rp K) ι1 H1 ((noExc (compLoop2 s.nx (headOf T t (wipeE env vs)) (innerOf g1 T1 t1 f vs1) m i acc ms2)).bind fun acc ms2 => mk acc ms2) Q,
      ⟨s.n, ι1, ms1, [], [], R1.banned h0, EnvOk.banned R1 h0 (ev.mono l1), Rps.banned R1 h0 rs, rfl, upd_same, rfl, Le.new R1 h0, o⟩, ?_⟩
    rintro i m H2 ⟨ι2, ms2, acc, xs, R2, ev2, rs2, ra2, hD2, hf2, l2, o2⟩
    cases m with
    | zero => exact o2.elim
    | succ m =>
      have js := jok (ι2.ban D0) H2 ms2 i R2 rs2
      unfold compLoop2 at o2
      cases w : s.nx i ms2 with
      | bad => simp only [w] at o2; exact o2.elim
      | stop =>
        simp only [w] at o2
        rw [w] at js
        exact .inl ⟨js, hmk K E ι1 ι2 H1 H2 ms2 D0 acc xs Q R2 (by rw [hf2]; exact hfr.2) h0 l2 hD2 ra2 o2⟩
      | item d =>
        simp only [w] at o2
        rw [w] at js
        refine .inr ⟨js.1, fun H2 => ∃ ι2 ms2 acc xs, Rel K (ι2.ban D0) H2 ms2 ∧ EnvOk K (ι2.ban D0) H2 env σ ∧ Rps K (ι2.ban D0) H2 s.ds us ∧ Rps K (ι2.ban D0) H2 acc xs ∧ H2 D0 = some (.lst xs) ∧ ι2.f = ι1.f ∧ Le ι1 H1 ι2 H2 ∧ Out K E (Rp K) ι1 H1 ((noExc (compLoop2 s.nx (headOf T t (wipeE env vs)) (innerOf g1 T1 t1 f vs1) m (i + 1) acc ms2)).bind fun acc ms2 => mk acc ms2) Q,
          fun H' h => ⟨m, Nat.lt_succ_self m, h⟩, fun x H' hy => ?_⟩
        obtain ⟨R3, l3, rd⟩ := js.2 x H' hy
        -- what stands wherever the turn has come to
        have grown : ∀ {ι2 ι5 : Ct} {H2 H5 : Hp} {ms5 : MS} {xs : List V}, H2 D0 = some (.lst xs) → ι2.f = ι1.f → Le ι1 H1 ι2 H2 → Rel K ι5 H5 ms5 → Le (ι2.ban D0) H2 ι5 H5 → ∃ ι6, ι5 = ι6.ban D0 ∧ ι6.f = ι1.f ∧ Le ι1 H1 ι6 H5 ∧ H5 D0 = some (.lst xs) := fun {ι2 ι5 H2 H5 ms5 xs} hD2 hf2 l2 R5 l5 => by
          have e := ban_form l5
          refine ⟨⟨ι5.a, ι2.f⟩, e, hf2, Le.within (ι' := ⟨ι5.a, ι2.f⟩) h0 l2 (by rw [← e]; exact l5) rfl, ?_⟩
          rw [l5.keep D0 (List.mem_cons_self ..)]
          exact hD2
        simp only [headOf] at o2
        refine tk x (L2.wipe σ vs) σ H' _ wipe_wipe ⟨ι2.ban D0, wipeE env vs, ms2, d, R3, (ev2.wipe vs).mono l3, rd, ?_⟩
        cases q3 : T d (wipeE env vs) ms2 with
        | bad => simp only [q3] at o2; exact o2.elim
        | exc x ms3 => simp only [q3] at o2; exact o2.elim
        | ok env3 ms3 =>
          simp only [q3, bind_ok] at o2
          intro σ3 ι3 H3 R3' l3' ev3
          refine ⟨ι3, env3, ms3, R3', ev3, ?_⟩
          cases q4 : t env3 ms3 with
          | bad => simp only [q4] at o2; exact o2.elim
          | exc x ms4 => simp only [q4] at o2; exact o2.elim
          | ok b ms4 =>
            simp only [q4, bind_ok] at o2
            intro b' ι4 H4 R4 l4 eb
            obtain rfl : b' = b := eb
            have l24 := (l3.trans l3').trans l4
            cases b' with
            | false =>
              simp only [Bool.false_eq_true, if_false] at o2 ⊢
              obtain ⟨ι6, e6, f6, le6, hD6⟩ := grown hD2 hf2 l2 R4 l24
              rw [e6] at R4 l24
              exact ⟨ι6, ms4, acc, xs, R4, ev2.mono l24, Rps.mono l24 _ _ rs2, Rps.mono l24 _ _ ra2, hD6, f6, le6, o2⟩
            | true =>
              simp only [if_true] at o2 ⊢
              refine ⟨ι4, env3, ms4, R4, ev3.mono l4, ?_⟩
              simp only [noExc, bind_ok, innerOf] at o2
              cases q5 : g1 env3 ms4 with
              | bad => simp only [q5] at o2; exact o2.elim
              | exc x ms5 => simp only [q5] at o2; exact o2.elim
              | ok s1 ms5 =>
                simp only [q5, bind_ok] at o2
                intro J1 ι5 H5 us1 R5 l5 rs5 jok1
                have l25 := l24.trans l5
                have ev35 := (ev3.mono l4).mono l5
                obtain ⟨ι6, e6, f6, le6, hD6⟩ := grown hD2 hf2 l2 R5 l25
                have ev5 := ev2.mono l25
                have rsO := Rps.mono l25 _ _ rs2
                have raO := Rps.mono l25 _ _ ra2
                rw [e6] at R5 rs5 ev35 ev5 rsO raO
                refine ⟨fun j k H2 => ∃ ι7 ms7 acc xs, Rel K (ι7.ban D0) H2 ms7 ∧ EnvOk K (ι7.ban D0) H2 env3 σ3 ∧ EnvOk K (ι7.ban D0) H2 env σ ∧ Rps K (ι7.ban D0) H2 s1.ds us1 ∧ Rps K (ι7.ban D0) H2 s.ds us ∧ Rps K (ι7.ban D0) H2 acc xs ∧ H2 D0 = some (.lst xs) ∧ ι7.f = ι1.f ∧ Le ι1 H1 ι7 H2 ∧ Out K E (Rp K) ι1 H1 ((noExc ((noExc (compLoop s1.nx (stepOf T1 t1 f (wipeE env3 vs1)) k j acc ms7)).bind fun acc1 ms2 => compLoop2 s.nx (headOf T t (wipeE env vs)) (innerOf g1 T1 t1 f vs1) m (i + 1) acc1 ms2)).bind fun acc ms2 => mk acc ms2) Q,
                  ⟨s1.n, ι6, ms5, acc, xs, R5, ev35, ev5, rs5, rsO, raO, hD6, f6, le6, o2⟩, ?_⟩
                rintro j k H7 ⟨ι7, ms7, acc7, xs7, R7, ev7, evo7, rs7, rso7, ra7, hD7, hf7, l7, o7⟩
                cases k with
                | zero => exact o7.elim
                | succ k =>
                  have js1 := jok1 (ι7.ban D0) H7 ms7 j R7 rs7
                  unfold compLoop at o7
                  cases w1 : s1.nx j ms7 with
                  | bad => simp only [w1] at o7; exact o7.elim
                  | stop =>
                    simp only [w1] at o7
                    rw [w1] at js1
                    exact .inl ⟨js1, ι7, ms7, acc7, xs7, R7, evo7, rso7, ra7, hD7, hf7, l7, o7⟩
                  | item d1 =>
                    simp only [w1] at o7
                    rw [w1] at js1
                    refine .inr ⟨js1.1, fun H2 => ∃ ι7 ms7 acc xs, Rel K (ι7.ban D0) H2 ms7 ∧ EnvOk K (ι7.ban D0) H2 env3 σ3 ∧ EnvOk K (ι7.ban D0) H2 env σ ∧ Rps K (ι7.ban D0) H2 s1.ds us1 ∧ Rps K (ι7.ban D0) H2 s.ds us ∧ Rps K (ι7.ban D0) H2 acc xs ∧ H2 D0 = some (.lst xs) ∧ ι7.f = ι1.f ∧ Le ι1 H1 ι7 H2 ∧ Out K E (Rp K) ι1 H1 ((noExc ((noExc (compLoop s1.nx (stepOf T1 t1 f (wipeE env3 vs1)) k (j + 1) acc ms7)).bind fun acc1 ms2 => compLoop2 s.nx (headOf T t (wipeE env vs)) (innerOf g1 T1 t1 f vs1) m (i + 1) acc1 ms2)).bind fun acc ms2 => mk acc ms2) Q,
                      fun H' h => ⟨k, Nat.lt_succ_self k, h⟩, fun x1 H8 hy1 => ?_⟩
                    obtain ⟨R8, l8, rd8⟩ := js1.2 x1 H8 hy1
                    simp only [stepOf] at o7
                    refine tk1 x1 (L2.wipe σ3 vs1) σ3 H8 _ wipe_wipe ⟨ι7.ban D0, wipeE env3 vs1, ms7, d1, R8, (ev7.wipe vs1).mono l8, rd8, ?_⟩
                    cases q9 : T1 d1 (wipeE env3 vs1) ms7 with
                    | bad => simp only [q9] at o7; exact o7.elim
                    | exc x ms3 => simp only [q9] at o7; exact o7.elim
                    | ok env9 ms9 =>
                      simp only [q9, bind_ok] at o7
                      intro σ9 ι9 H9 R9 l9 ev9
                      refine ⟨ι9, env9, ms9, R9, ev9, ?_⟩
                      cases q10 : t1 env9 ms9 with
                      | bad => simp only [q10] at o7; exact o7.elim
                      | exc x ms4 => simp only [q10] at o7; exact o7.elim
                      | ok b ms10 =>
                        simp only [q10, bind_ok] at o7
                        intro b' ι10 H10 R10 l10 eb
                        obtain rfl : b' = b := eb
                        have l710 := (l8.trans l9).trans l10
                        cases b' with
                        | false =>
                          simp only [Bool.false_eq_true, if_false] at o7 ⊢
                          obtain ⟨ι11, e11, f11, le11, hD11⟩ := grown hD7 hf7 l7 R10 l710
                          rw [e11] at R10 l710
                          exact ⟨ι11, ms10, acc7, xs7, R10, ev7.mono l710, evo7.mono l710, Rps.mono l710 _ _ rs7, Rps.mono l710 _ _ rso7, Rps.mono l710 _ _ ra7, hD11, f11, le11, o7⟩
                        | true =>
                          simp only [if_true] at o7 ⊢
                          refine ⟨ι10, env9, ms10, R10, ev9.mono l10, ?_⟩
                          cases q11 : f env9 ms10 with
                          | bad => simp only [q11] at o7; exact o7.elim
                          | exc x ms5 => simp only [q11] at o7; exact o7.elim
                          | ok y ms11 =>
                            simp only [q11, bind_ok] at o7
                            intro yv ι11 H11 R11 l11 ry
                            have l711 := l710.trans l11
                            obtain ⟨ι12, e12, f12, le12, hD12⟩ := grown hD7 hf7 l7 R11 l711
                            rw [e12] at R11 l711 ry
                            have o8 : Out K E (Rp K) ι1 H1 ((noExc ((noExc (if acc7.length < LIM then compLoop s1.nx (stepOf T1 t1 f (wipeE env3 vs1)) k (j + 1) (acc7 ++ [y]) ms11 else .bad)).bind fun acc1 ms2 => compLoop2 s.nx (headOf T t (wipeE env vs)) (innerOf g1 T1 t1 f vs1) m (i + 1) acc1 ms2)).bind fun acc ms2 => mk acc ms2) Q := o7
                            by_cases hl : acc7.length < LIM
                            · rw [if_pos hl] at o8
                              have rx := Rps.mono l711 _ _ ra7
                              exact ⟨xs7, hD12, by rw [rx.length, ← lim_eq]; exact hl, ι12, ms11, acc7 ++ [y], xs7 ++ [yv], R11.put, EnvOk.put R11 (ev7.mono l711), EnvOk.put R11 (evo7.mono l711), Rps.put R11 (Rps.mono l711 _ _ rs7), Rps.put R11 (Rps.mono l711 _ _ rso7), Rps.put R11 (rx.append (Rps.mk1 ry)), upd_same, f12, Le.put R1 h0 le12, o8⟩
                            · rw [if_neg hl] at o8; exact o8.elim
theorem d_comp2 {mk : List D → MS → Res D} (hmk : EndOk mk) {elt tg iter tg1 iter1 : Expr} {ifs ifs1 : List Expr} {scope : Scope} {own : List (Str × Nat)} {vs1 : List Nat} {pos : Pos} {g g1 : Env → MS → Res Src} {gg gg1 : TG} {T T1 : TF} {t t1 : Env → MS → Res Bool} {f : Env → MS → Res D}
    (hc : X.calm = true) (hN : X.N.Nodup) (hi : DI X E tg iter g) (ok : BlkOk X.N X.env.scope scope own) (hv : ∀ i ∈ vs1, i ∈ own.map (·.2))
    (hg : ∀ (s : Shared) (H : Hp) (C : Addr) (cl : List (Str × Addr)) (fp : List Addr), PG (X.blk s H scope (compEnvC scope cl C X.env) fp) tg gg) (tk : TOk X.K E00 (own.map (·.2)) gg T)
    (ht : ∀ (s : Shared) (H : Hp) (C : Addr) (cl : List (Str × Addr)) (fp : List Addr), PTs (X.blk s H scope (compEnvC scope cl C X.env) fp) ifs (tT X.K E00 t))
    (hi1 : ∀ (s : Shared) (H : Hp) (C : Addr) (cl : List (Str × Addr)) (fp : List Addr), PI (X.blk s H scope (compEnvC scope cl C X.env) fp) tg1 iter1 (tI X.K E00 g1))
    (hg1 : ∀ (s : Shared) (H : Hp) (C : Addr) (cl : List (Str × Addr)) (fp : List Addr), PG (X.blk s H scope (compEnvC scope cl C X.env) fp) tg1 gg1) (tk1 : TOk X.K E00 vs1 gg1 T1)
    (ht1 : ∀ (s : Shared) (H : Hp) (C : Addr) (cl : List (Str × Addr)) (fp : List Addr), PTs (X.blk s H scope (compEnvC scope cl C X.env) fp) ifs1 (tT X.K E00 t1))
    (he : ∀ (s : Shared) (H : Hp) (C : Addr) (cl : List (Str × Addr)) (fp : List Addr), PE (X.blk s H scope (compEnvC scope cl C X.env) fp) elt (tD X.K E00 f)) (hs : ∀ x, foldedSetIterable iter X.env x = pure x := by intro _; rfl) (hs1 : ∀ env x, foldedSetIterable iter1 env x = pure x := by intro _ _; rfl) :
    DE X E (.ListComp elt [⟨tg, iter, ifs, 0⟩, ⟨tg1, iter1, ifs1, 0⟩] scope pos) (compE2 mk g T t g1 T1 t1 f (own.map (·.2)) vs1) :=
  PE.conv (pe_lc2 hc hN hi ok hv hg ht hi1 hg1 ht1 he hs hs1) fun _ _ _ h => comp_read2 hmk tk tk1 h
theorem s_setComp2 {mk : List D → MS → Res D} (hmk : EndOk mk) {i : Nat} {y : Str} {py spos : Pos} {elt tg iter tg1 iter1 : Expr} {ifs ifs1 : List Expr} {scope : Scope} {own : List (Str × Nat)} {vs1 : List Nat} {pos : Pos} {g g1 : Env → MS → Res Src} {gg gg1 : TG} {T T1 : TF} {t t1 : Env → MS → Res Bool} {f : Env → MS → Res D}
    (hc : X.calm = true) (hN : X.N.Nodup) (hy : X.N[i]? = some y) (hyl : X.env.scope.names.lookup y = some .local)
    (hsw : swapsWith (.ListComp elt [⟨tg, iter, ifs, 0⟩, ⟨tg1, iter1, ifs1, 0⟩] scope pos) (some (.Name y py)) spos.line X.env = pure true) (hi : DI X E tg iter g) (ok : BlkOk X.N X.env.scope scope own) (hv : ∀ i ∈ vs1, i ∈ own.map (·.2))
    (hg : ∀ (s : Shared) (H : Hp) (C : Addr) (cl : List (Str × Addr)) (fp : List Addr), PG (X.blk s H scope (compEnvC scope cl C X.env) fp) tg gg) (tk : TOk X.K E00 (own.map (·.2)) gg T)
    (ht : ∀ (s : Shared) (H : Hp) (C : Addr) (cl : List (Str × Addr)) (fp : List Addr), PTs (X.blk s H scope (compEnvC scope cl C X.env) fp) ifs (tT X.K E00 t))
    (hi1 : ∀ (s : Shared) (H : Hp) (C : Addr) (cl : List (Str × Addr)) (fp : List Addr), PI (X.blk s H scope (compEnvC scope cl C X.env) fp) tg1 iter1 (tI X.K E00 g1))
    (hg1 : ∀ (s : Shared) (H : Hp) (C : Addr) (cl : List (Str × Addr)) (fp : List Addr), PG (X.blk s H scope (compEnvC scope cl C X.env) fp) tg1 gg1) (tk1 : TOk X.K E00 vs1 gg1 T1)
    (ht1 : ∀ (s : Shared) (H : Hp) (C : Addr) (cl : List (Str × Addr)) (fp : List Addr), PTs (X.blk s H scope (compEnvC scope cl C X.env) fp) ifs1 (tT X.K E00 t1))
    (he : ∀ (s : Shared) (H : Hp) (C : Addr) (cl : List (Str × Addr)) (fp : List Addr), PE (X.blk s H scope (compEnvC scope cl C X.env) fp) elt (tD X.K E00 f)) (hs : ∀ x, foldedSetIterable iter X.env x = pure x := by intro _; rfl) (hs1 : ∀ env x, foldedSetIterable iter1 env x = pure x := by intro _ _; rfl) :
    DS X E (.Assign [.Name y py] (.ListComp elt [⟨tg, iter, ifs, 0⟩, ⟨tg1, iter1, ifs1, 0⟩] scope pos) spos) (setS i (compE2 mk g T t g1 T1 t1 f (own.map (·.2)) vs1)) :=
  PS.conv (ps_setLc2 hc hN hy hyl hsw hi ok hv hg ht hi1 hg1 ht1 he hs hs1) fun σ H D ⟨ι, env, ms, r, ev, o⟩ => comp_read2 hmk tk tk1 (Q := fun x H1 => gName i x σ H1 D.nx) (by
    have z : tR X.K E (Rp X.K) (compE2 mk g T t g1 T1 t1 f (own.map (·.2)) vs1) σ H (fun x H1 => gName i x σ H1 D.nx) := tR_seqS r ev o fun ι1 H1 ms1 a b B o1 => o1 _ ι1 H1 B.rel .refl (B.env.set B.r i)
    exact z)
end
end DL

set_option maxHeartbeats 1000000
namespace DL
open PySem PySem.Spec L2
open PyProof.Rows hiding St

/-! ### module dicts whose values are tuples of texts -/
def KTabT (K : PySem.W.Frag) (d : Addr) (tbl : List (Str × Option (List Str))) : Prop := ∀ z r, tbl.lookup z = some r → match r with
  | none => PySem.W.nsIn K d z = some none
  | some ss => ∃ (p : Addr) (dd : Option Addr) (us : Array Value) (n : Nat) (sl : Array (Option Value)), PySem.W.nsIn K d z = some (some (.ref p)) ∧ K.lookup p = some ⟨.type "tuple", dd, .seq us n, sl⟩ ∧ us.size ≤ sizeLine ∧ Vals (ss.map V.str) us.toList
structure KMT (K : PySem.W.Frag) (w : World) (mg : Str → Option Value) (x : Str) (tbl : List (Str × Option (List Str))) where
  d : Addr
  es : Array DictEntry
  n : Nat
  k : KDict K w d es n
  t : KTabT K d tbl
  g : mg x = some (.ref d)
@[simp] def kgtE (tbl : List (Str × Option (List Str))) (f : Env → MS → Res D) (env : Env) (ms : MS) : Res D := (f env ms).bind fun d ms1 => match d with
  | .str z => match tbl.lookup z with
    | some (some ss) => .ok (.tup (ss.map D.str)) ms1
    | some none => .ok .non ms1
    | none => .bad
  | _ => .bad
section
variable {X : Cx} {E : EW} {i : Expr} {f : Env → MS → Res D} {x : Str} {tbl : List (Str × Option (List Str))} {p pos apos : Pos}
theorem pe_kgt {ti : TE} (C : KMT X.K X.w X.mg x tbl) (hi : PE X i ti) (hg : Gl X x) (hdb : (x == ("__debug__" : Str)) = false) (m : M1 X (.Name x p) "get" apos i pos) :
    PE X (.Call (.Attribute (.Name x p) "get" apos) [i] [] pos) (fun σ H Q => ti σ H fun y H1 => ∃ (z : Str) (r : Option Value) (v0 : V), y = .str z ∧ PySem.W.nsIn X.K C.d z = some r ∧ RelV v0 (r.getD .none) ∧ Q v0 H1) := by
  refine ⟨fun pins s σ H Q I h => ?_⟩
  refine wpAny_Call_method m.base m.few m.line PySem.F.plainAttrs_dict PySem.F.slot_dict_get PySem.F.type_dict_get (thn ((pe_glob (pos := p) hg C.g (v := .ref C.d) rfl hdb).run pins s σ H (fun y H' => y = .ref C.d ∧ H' = H) I ⟨rfl, rfl⟩) fun u s1 ⟨y, H1, I1, ry, ey, eH⟩ => ?_)
  subst eH
  subst ey
  obtain rfl : u = Value.ref C.d := ry
  refine ⟨kd_type C.k I1, (PySem.W.mapOf_K (prog := X.prog) (w := X.w) I1.kIn C.k.at_ C.k.lit).noDict, ?_⟩
  rw [m.trees]
  refine Calls.callWith_builtin rfl (Calls.evalArgs_plain (Calls.spliced_cons (thn (hi.run pins s1 σ H1 _ I1 h) fun iv s2 ⟨y, H2, I2, ry, z, r, v0, ez, e, rv, q2⟩ => Calls.spliced_nil ?_)))
  subst ez
  obtain ⟨t, rfl⟩ := ry
  exact call_meetsIn PySem.F.slot_dict_get (kd_type C.k I2) PySem.F.entry_dict_get (PySem.F.args_dict_get_2 _ _) (meets_dict_get (PySem.strKind X.prog X.w) C.d (PySem.strKind_is X.prog X.w z t) C.k.low) ⟨_, PySem.W.mapOf_K (prog := X.prog) I2.kIn C.k.at_ C.k.lit, by
    rw [PySem.W.find_K C.k.at_ e]
    exact ⟨v0, H2, I2.tok _, rv, q2⟩⟩
theorem d_kgt (C : KMT X.K X.w X.mg x tbl) (hi : DE X E i f) (hg : Gl X x := by rfl) (hdb : (x == ("__debug__" : Str)) = false := by decide) (m : M1 X (.Name x p) "get" apos i pos := by exact ⟨rfl, rfl, rfl, rfl⟩) : DE X E (.Call (.Attribute (.Name x p) "get" apos) [i] [] pos) (kgtE tbl f) :=
  PE.conv (pe_kgt C hi hg hdb m) fun σ H Q ⟨ι, env, ms, r, ev, o⟩ => tR_seq r ev o fun ι1 H1 ms1 d y B1 o1 => by
    cases d with
    | str z =>
      cases q : tbl.lookup z with
      | none => simp only [q] at o1; exact o1.elim
      | some r =>
        have ht := C.t z r q
        cases r with
        | none =>
          simp only [q] at o1
          exact ⟨z, _, .non, B1.r, ht, rfl, o1 _ ι1 H1 B1.rel .refl rfl⟩
        | some ss =>
          simp only [q] at o1
          obtain ⟨pp, dd, us, n, sl, h1, h2, h3, h4⟩ := ht
          exact ⟨z, _, .ref pp, B1.r, h1, rfl, o1 _ ι1 H1 B1.rel .refl (gtup ss h2 h3 h4 _ _)⟩
    | _ => exact o1.elim
end
def KTabTL (K : PySem.W.Frag) (d : Addr) : List (Str × Option (List Str)) → Prop
  | [] => True
  | (z, none) :: r => PySem.W.nsIn K d z = some none ∧ KTabTL K d r
  | (z, some ss) :: r => (∃ (p : Addr) (dd : Option Addr) (us : Array Value) (n : Nat) (sl : Array (Option Value)), PySem.W.nsIn K d z = some (some (.ref p)) ∧ K.lookup p = some ⟨.type "tuple", dd, .seq us n, sl⟩ ∧ us.size ≤ sizeLine ∧ Vals (ss.map V.str) us.toList) ∧ KTabTL K d r
theorem KTabTL.tab {K : PySem.W.Frag} {d : Addr} : ∀ {tbl : List (Str × Option (List Str))}, KTabTL K d tbl → KTabT K d tbl
  | [], _ => fun z r h => by cases h
  | (z0, none) :: l, h => fun z r e => by
    unfold List.lookup at e
    cases q : z == z0 with
    | true =>
      rw [q] at e
      cases e
      have : z = z0 := eq_of_beq q
      subst this
      exact h.1
    | false =>
      rw [q] at e
      exact KTabTL.tab h.2 z r e
  | (z0, some y) :: l, h => fun z r e => by
    unfold List.lookup at e
    cases q : z == z0 with
    | true =>
      rw [q] at e
      cases e
      have : z = z0 := eq_of_beq q
      subst this
      exact h.1
    | false =>
      rw [q] at e
      exact KTabTL.tab h.2 z r e
end DL

set_option maxHeartbeats 1000000
namespace HT
open PySem PySem.Spec PySem.W
theorem rev2_bounds (n : Nat) : sliceBounds (some (-2)) none (some (-1)) n = (max (-1) ((n : Int) - 2), -1, -1) := by
  unfold sliceBounds
  simp
  omega
theorem rev2_range (n : Nat) : sliceRange (max (-1) ((n : Int) - 2)) (-1) (-1) = (List.range (n - 1)).reverse := by
  cases n with
  | zero => rfl
  | succ m =>
    rw [show max (-1) (((m + 1 : Nat) : Int) - 2) = (m : Int) - 1 by omega, krv_sliceRange, krv_range]
    rfl
theorem fm_congr {α β : Type} {f g : α → Option β} : ∀ {l : List α}, (∀ x ∈ l, f x = g x) → l.filterMap f = l.filterMap g
  | [], _ => rfl
  | a :: l, h => by rw [List.filterMap_cons, List.filterMap_cons, h a (List.mem_cons_self ..), fm_congr fun x hx => h x (List.mem_cons_of_mem _ hx)]
theorem range_run {α : Type} (xs : Array α) (k : Nat) (h : k ≤ xs.size) : (List.range k).filterMap (xs[·]?) = xs.toList.take k := by
  have e := krv_all (xs.extract 0 k)
  have hs : (xs.extract 0 k).size = k := by simp [h]
  rw [hs] at e
  rw [show xs.toList.take k = (xs.extract 0 k).toList by simp, ← e]
  refine fm_congr fun i hi => ?_
  have hi' := List.mem_range.mp hi
  show xs[i]? = (xs.extract 0 k)[i]?
  rw [Array.getElem?_extract]
  simp [hi', Nat.min_eq_left h]
theorem rev2_pick (items : Array Value) : slicePick items (some (-2)) none (some (-1)) = (items.toList.reverse.drop 1).toArray := by
  unfold slicePick
  rw [rev2_bounds]
  show ((sliceRange (max (-1) ((items.size : Int) - 2)) (-1) (-1)).filterMap (items[·]?)).toArray = _
  rw [rev2_range, List.filterMap_reverse, range_run _ _ (Nat.sub_le _ _), List.drop_reverse, Array.length_toList]
end HT
namespace DL
open PySem PySem.Spec L2
open PyProof.Rows hiding St

/-! ### xs[-2::-1] of a list -/
def tRevL2 (K : PySem.W.Frag) (te : TE) : TE := fun σ H Q => te σ H fun x H1 => ∃ a xs, x = .ref a ∧ SqL K H1 a xs ∧ ∀ p, H1 p = none → Q (.ref p) (upd H1 p (.lst (xs.reverse.drop 1)))
section
variable {X : Cx} {E : EW} {e : Expr} {te : TE} {f : Env → MS → Res D} {k k0 : Nat} {p1 p2 p3 p4 p5 pos : Pos}
theorem pe_revL2 (he : PE X e te) : PE X (.Subscript e (.Slice (some (.UnaryOp .USub (.Constant (.int 2) k0 p4) p5)) none (some (.UnaryOp .USub (.Constant (.int 1) k p1) p2)) p3) pos) (tRevL2 X.K te) := by
  refine ⟨fun pins s σ H Q I h => ?_⟩
  refine Subscript_ (thn (he.run pins s σ H _ I h) fun v s1 ⟨x, H1, I1, r1, q1⟩ => ?_)
  obtain ⟨a, xs, ex, hx, q⟩ := q1
  subst ex
  cases r1
  have hst : PO X (some (.UnaryOp .USub (.Constant (.int 1) k p1) p2)) (tPart (tUn (rU fun i => .int (-i)) (tC (.int 1)))) := po_some (pe_un un_neg pe_int)
  have hlo : PO X (some (.UnaryOp .USub (.Constant (.int 2) k0 p4) p5)) (tPart (tUn (rU fun i => .int (-i)) (tC (.int 2)))) := po_some (pe_un un_neg pe_int)
  refine wpAny_Slice (thn (hlo.run pins s1 σ H1 (fun o H2 => o = some (-2) ∧ H2 = H1) I1 ⟨2, rfl, -2, rfl, rfl, rfl⟩) fun vl s2 ⟨l, H2, I2, pl, el, e2⟩ => ?_)
  subst el e2
  refine thn (po_none.run pins s2 σ H2 (fun o H3 => o = none ∧ H3 = H2) I2 ⟨rfl, rfl⟩) fun vu s3 ⟨u, H3, I3, pu, eu, e3⟩ => ?_
  subst eu e3
  refine thn (hst.run pins s3 σ H3 (fun o H4 => o = some (-1) ∧ H4 = H3) I3 ⟨1, rfl, -1, rfl, rfl, rfl⟩) fun vs s4 ⟨o, H4, I4, ps, eo, e4⟩ => ?_
  subst eo e4
  have I5 : Inv X pins σ H4 { s4 with heap := s4.heap.push { cls := .type "slice", data := .fields #[vl, vu, vs] } } := I4.kept (t' := s4.toks) fun b ob q => Heap.get?_push_of_some _ q
  obtain ⟨its, r, ht, hz⟩ := I5.list hx
  have hlen := r.length
  refine tail_any (ops := [.ref a, .ref s4.heap.objs.size]) ht.isList.typeIs (PySem.slot_list_getitem.lookup) ?_ (by with_unfolding_all rfl)
  refine wpAny_getItem_list_slice ht.isList (Heap.IsSliceOf.new _ vl vu vs) pl pu ps (by decide) ?_ (by rw [List.size_toArray]; omega)
  rw [HT.rev2_pick]
  refine ⟨.ref _, _, I5.laid (t' := s4.toks) (o := .lst (xs.reverse.drop 1)) (fun b ob q => Heap.get?_push_of_some _ q) (Nat.le_refl _) ?_, rfl, q _ (I5.hok.fresh (Nat.le_refl _))⟩
  refine ⟨by rw [List.length_drop, List.length_reverse]; omega, _, 0, ?_, Heap.get?_push_size _ rfl⟩
  exact (vals_reverse r).drop 1
@[simp] def revL2 (f : Env → MS → Res D) (env : Env) (ms : MS) : Res D := (f env ms).bind fun d ms1 => match rlOf ms1 d with
  | some ds => mkLst (ds.reverse.drop 1) ms1
  | none => .bad
theorem d_revL2 (he : DE X E e f) : DE X E (.Subscript e (.Slice (some (.UnaryOp .USub (.Constant (.int 2) k0 p4) p5)) none (some (.UnaryOp .USub (.Constant (.int 1) k p1) p2)) p3) pos) (revL2 f) :=
  PE.conv (pe_revL2 he) fun σ H Q ⟨ι, env, ms, r, ev, o⟩ => tR_seq r ev o fun ι1 H1 ms1 d x B o1 => by
    cases q : rlOf ms1 d with
    | none => simp only [q] at o1; exact o1.elim
    | some ds =>
      simp only [q] at o1
      obtain ⟨p, xs, rfl, rs, hq⟩ := B.rel.rl q B.r
      exact ⟨p, xs, rfl, hq, (mkLst_ok B.rel (rs.reverse.drop 1) o1).2⟩
end
end DL

set_option maxHeartbeats 1000000
namespace HT
open PySem PySem.Spec PySem.Calls PyProof.Rows L2
def sel (start stop step : Int) (i : Nat) : Bool :=
  if step > 0 then start ≤ i && i < stop && (i - start) % step == 0
  else stop < i && i ≤ start && (start - i) % (-step) == 0
def keepF (a c : Int) (xs : Array Value) : Array Value := (xs.toList.zipIdx.filterMap fun (x, k) => if sel a c 1 k then none else some x).toArray
theorem keep_eq (its : List Value) (a : Nat) : keepF (a : Int) (its.length : Int) its.toArray = (its.take a).toArray := by
  unfold keepF
  congr 1
  have h : ∀ (l : List Value) (j n : Nat), j + l.length = n → (l.zipIdx j).filterMap (fun (p : Value × Nat) => if sel (a : Int) (n : Int) 1 p.2 then none else some p.1) = l.take (a - j) := by
    intro l
    induction l with
    | nil => intro j n _; simp
    | cons x l ih =>
      intro j n hj
      simp at hj
      rw [List.zipIdx_cons, List.filterMap_cons]
      have e : sel (a : Int) (n : Int) 1 j = decide (a ≤ j) := by
        unfold sel
        rw [if_pos (by decide)]
        by_cases h : a ≤ j
        · have h1 : (a : Int) ≤ j := by omega
          have h2 : (j : Int) < n := by omega
          simp [h, h1, h2, Int.emod_one]
        · have h1 : ¬ (a : Int) ≤ j := by omega
          simp [h, h1]
      simp only [e]
      rw [ih (j + 1) n (by omega)]
      by_cases h : a ≤ j
      · simp only [decide_eq_true h, if_true]
        rw [show a - j = 0 by omega, show a - (j + 1) = 0 by omega]
        simp
      · simp only [decide_eq_false h, Bool.false_eq_true, if_false]
        rw [show a - j = (a - (j + 1)) + 1 by omega]
        simp
  simpa using h its 0 its.length (by simp)
section
variable {prog : Program} {w : World} {A : Around} {E : Value → Shared → Prop} {s : Shared}
theorem from_run {a n : Nat} (ha : a ≤ n) : sliceBounds (some (a : Int)) none none n = ((a : Int), (n : Int), 1) := by
  simp only [sliceBounds, Option.getD_none]
  have h1 : ¬ ((a : Int) < 0) := by omega
  simp only [h1, if_false, show (1 : Int) > 0 by decide, if_true]
  congr 1
  omega
set_option maxRecDepth 100000 in
theorem delItem_from {l sl : Addr} {items : Array Value} {n : Nat} {vl : Value} {a : Nat} {Q : Unit → Shared → Prop}
    (e : s.heap.get? l = some { cls := .type "list", data := .seq items n })
    (hs : s.heap.IsSliceOf sl vl .none .none) (pl : IsPart vl (some (a : Int))) (ha : a ≤ items.size)
    (hsz : items.size ≤ sizeLine) (h : Q () { s with heap := s.heap.update l (Obj.mapSeq (keepF (a : Int) (items.size : Int))) }) :
    wpAny (model prog w) A (delItem (.ref l) (.ref sl)) Q E s := by
  have hl : s.heap.IsList l items := PySem.IsL.isList e
  obtain ⟨os, hos, hcs, hds⟩ := id hs
  have hTs : s.TypeIs (.ref sl) "slice" := ⟨os, hos, hcs⟩
  have hstep : ¬ ((rawPart none == rawInt 0) = true) := Bool.false_ne_true
  unfold delItem
  try with_reducible refine wpAny_holding ?_
  first | refine wpAny_bind (wpAny_pure ?_) | skip
  refine wpAny_bind (wpAny_sequenceKey hl.typeIs (by decide) ?_)
  refine wpAny_bind (wpAny_callSpecial?_slot (name := Str.ofString "__delitem__") hl.typeIs PySem.F.slot_list_delitem
    (wpAny_call_entry PySem.F.slot_list_delitem hl.typeIs PySem.F.entry_list_delitem ?_ (PySem.F.args_list_delitem_2 _ _)))
  show wpAny _ _ (Builtin.List.listSubscript? (.ref sl) >>= _) _ _ s
  refine wpAny_bind ?_
  unfold Builtin.List.listSubscript?
  refine wpAny_bind (wpAny_specialOf hTs slice_no_index ?_)
  simp only [Option.isNone_none, if_true]
  refine wpAny_pure ?_
  show wpAny _ _ (typeOf (.ref sl) >>= _) _ _ s
  refine wpAny_bind (wpAny_typeOf hTs ?_)
  first
    | rw [if_neg (by decide)]
    | refine PySem.W.KFB.if_not (by decide) ?_
  rw [listSliceParts_eq]
  refine wpAny_bind (wpAny_bind (wpAny_field hos hds (x := .none) rfl (wpAny_bind (wpAny_listPart .none ?_))))
  rw [if_neg hstep]
  refine wpAny_bind (wpAny_field hos hds (x := vl) rfl (wpAny_bind (wpAny_listPart pl ?_)))
  refine wpAny_bind (wpAny_field hos hds (x := .none) rfl (wpAny_bind (wpAny_listPart .none (wpAny_pure ?_))))
  refine wpAny_bind (wpAny_bind (wpAny_seqItems e rfl (wpAny_pure ?_)))
  refine wpAny_bind (wpAny_of_eq ((sliceIndices_raw (some (a : Int)) none none items.size (by simp)).trans (congrArg (pure : Int × Int × Int → Sem (Int × Int × Int)) (from_run ha))) ?_)
  refine wpAny_bind (wpAny_rule ?_)
  show wpAny _ _ (updateSeq l (keepF (a : Int) (items.size : Int)) >>= _) _ _ s
  refine wpAny_bind (wpAny_updateSeq (hz := hsz) (_hz' := ?_) e rfl ?_)
  · refine wpAny_bind (wpAny_letGo ?_)
    first
      | exact wpAny_bind (wpAny_pure (wpAny_pure ⟨.none, rfl, wpAny_pure h⟩))
      | exact wpAny_pure ⟨.none, rfl, wpAny_pure h⟩
  · have : (keepF (a : Int) (items.size : Int) items).size ≤ items.size := by
      unfold keepF
      rw [List.size_toArray]
      exact Nat.le_trans (List.length_filterMap_le ..) (by simp)
    omega
end
end HT
namespace DL
open PySem PySem.Spec L2
open PyProof.Rows hiding St

/-! ### del xs[a:] of a list -/
def tDelF (to ti : TE) : TS := fun D σ H => to σ H fun x H1 => ∃ l, x = .ref l ∧ tPart ti σ H1 fun y H2 => ∃ (xs : List V) (a : Nat), y = some (a : Int) ∧ H2 l = some (.lst xs) ∧ a ≤ xs.length ∧ D.nx σ (upd H2 l (.lst (xs.take a)))
section
variable {X : Cx} {E : EW} {o i : Expr} {to ti : TE} {tpos pos p3 : Pos} {f g : Env → MS → Res D}
theorem ps_delF (ho : PE X o to) (hi : PE X i ti) : PS X (.Delete [.Subscript o (.Slice (some i) none none p3) tpos] pos) (tDelF to ti) := by
  refine ⟨fun pins s σ H D I h => ?_⟩
  refine wpAny_Delete (wpAny_deleteEach_cons (wpAny_delete_Subscript (thn (ho.run pins s σ H _ I h) fun u s1 ⟨x, H1, I1, rx, l, ex, q1⟩ => ?_)))
  subst ex
  cases (show u = Value.ref l from rx)
  refine wpAny_Slice (thn ((po_some hi).run pins s1 σ H1 (fun o H2 => ∃ (xs : List V) (a : Nat), o = some (a : Int) ∧ H2 l = some (.lst xs) ∧ a ≤ xs.length ∧ D.nx σ (upd H2 l (.lst (xs.take a)))) I1 q1) fun vl s2 ⟨lo, H2, I2, pl, xs, a, el, hH, ha, q⟩ => ?_)
  subst el
  refine thn (po_none.run pins s2 σ H2 (fun o H3 => o = none ∧ H3 = H2) I2 ⟨rfl, rfl⟩) fun vu s3 ⟨u, H3, I3, pu, eu, e3⟩ => ?_
  subst eu e3
  refine thn (po_none.run pins s3 σ H3 (fun o H4 => o = none ∧ H4 = H3) I3 ⟨rfl, rfl⟩) fun vs s4 ⟨o, H4, I4, ps, eo, e4⟩ => ?_
  subst eo e4
  cases pu
  cases ps
  have I5 : Inv X pins σ H4 { s4 with heap := s4.heap.push { cls := .type "slice", data := .fields #[vl, .none, .none] } } := I4.kept (t' := s4.toks) fun b ob q => Heap.get?_push_of_some _ q
  obtain ⟨z, its, n, r, hl, e⟩ := I5.lstM hH
  have hlen := r.length
  refine HT.delItem_from (a := a) e (Heap.IsSliceOf.new _ vl .none .none) pl (by rw [List.size_toArray]; omega) (by rw [List.size_toArray]; omega) ?_
  refine wpAny_deleteEach_nil ⟨σ, _, I5.lset (its' := its.take a) (t' := s4.toks) hH e ?_ (r.take a) ?_, q⟩
  · rw [List.size_toArray]
    exact HT.keep_eq its a
  · rw [List.length_take]
    omega
@[simp] def delF (fo fi : Env → MS → Res D) : SF := fun env ms => (fo env ms).bind fun o ms1 => match cellL ms1 o with
  | none => .bad
  | some _ => (fi env ms1).bind fun i ms2 => match cellL ms2 o with
    | none => .bad
    | some (n, ds) => match i with
      | .int k => if 0 ≤ k ∧ k ≤ ds.length then .ok (.nx, env) (ms2.set n (.lst (ds.take k.toNat))) else .bad
      | _ => .bad
theorem s_delF (ho : DE X E o f) (hi : DE X E i g) : DS X E (.Delete [.Subscript o (.Slice (some i) none none p3) tpos] pos) (delF f g) :=
  PS.conv (ps_delF ho hi) fun σ H D' ⟨ι, env, ms, r, ev, q⟩ => by
    refine tR_seqS r ev q fun ι1 H1 ms1 d x B1 o1 => ?_
    cases c : cellL ms1 d with
    | none => simp only [c] at o1; exact o1.elim
    | some z0 =>
      obtain ⟨n0, ds0⟩ := z0
      simp only [c] at o1
      obtain ⟨p0, xs0, rfl, hn0, h10, hk0⟩ := B1.rel.cellL c B1.r
      refine ⟨p0, rfl, tR_seqS B1.rel B1.env o1 fun ι2 H2 ms2 j y B2 o2 => ?_⟩
      cases c2 : cellL ms2 d with
      | none => simp only [c2] at o2; exact o2.elim
      | some z =>
        obtain ⟨n, ds⟩ := z
        obtain ⟨p, xs, ep, hn, h1, hk⟩ := B2.rel.cellL c2 (Rp.mono B2.le _ _ B1.r)
        cases ep
        cases j with
        | int k =>
          simp only [c2] at o2
          by_cases hl : 0 ≤ k ∧ k ≤ ds.length
          · rw [if_pos hl] at o2
            have w := Le.write (o := .lst (xs.take k.toNat)) B2.rel hn
            have h2 := Rps.mono w _ _ (hk.take k.toNat)
            refine ⟨k, B2.r, xs, k.toNat, by rw [Int.toNat_of_nonneg hl.1], h1, by rw [hk.length]; omega, o2 σ ι2 _ (B2.rel.write hn ⟨_, upd_same, h2⟩) w (B2.env.mono w)⟩
          · rw [if_neg hl] at o2; exact o2.elim
        | _ => simp only [c2] at o2; exact o2.elim
end
end DL

set_option maxHeartbeats 1000000
namespace DL
open PySem PySem.Spec L2
open PyProof.Rows hiding St

/-! ### exceptions: raise, what a def lets out, try -/
/-- the class of an exception, as a value; own classes without fields -/
def ClsIs (K : PySem.W.Frag) (x : Exc) (cls : Value) (d : Option Addr) : Prop := x.a = none ∧ d = none ∧ ∃ C, cls = .ref C ∧ PySem.W.nsIn K mainGlobals x.c = some (some (.ref C))
def WofE (K : PySem.W.Frag) (E : EW) : WX := fun cls d σ H => ∃ x ι, ClsIs K x cls d ∧ EnvOk K ι H x.env σ ∧ E x ι H
def EofW (K : PySem.W.Frag) (W : WX) : EW := fun x ι H => ∀ σ cls d, EnvOk K ι H x.env σ → ClsIs K x cls d → W cls d σ H
def ofX (K : PySem.W.Frag) (EX : XK) : EW := fun x _ H => ∀ cls d, ClsIs K x cls d → EX cls d H
section
variable {X : Cx} {E : EW} {W : WX} {EX : XK}
theorem takes_E (tk : Takes X W) : Takes X (WofE X.K (EofW X.K W)) := tk.imp fun c d σ H ⟨x, ι, h1, h2, h3⟩ => h3 σ c d h2 h1
theorem takesN : Takes X (WofE X.K E00) := takes0.imp fun c d σ H ⟨x, ι, h1, h2, h3⟩ => h3
theorem takes_def (tk : Takes X (fun cls d _ H => EX cls d H)) : Takes X (WofE X.K (ofX X.K EX)) := tk.imp fun c d σ H ⟨x, ι, h1, h2, h3⟩ => h3 c d h1
end
@[simp] def atEnv {α : Type} (env : Env) (r : Res α) : Res α := match r with
  | .exc x ms => .exc ⟨x.c, x.a, env⟩ ms
  | .ok a ms => .ok a ms
  | .bad => .bad
@[simp] def callX (n : Nat) (sem : List D → MS → Res D) (env : Env) (ds : List D) (ms : MS) : Res D := if ds.length = n then atEnv env (sem ds ms) else .bad
@[simp] def callXE (fs : Env → MS → Res (List D)) (p : Env → List D → MS → Res D) (env : Env) (ms : MS) : Res D := (fs env ms).bind fun ds ms1 => p env ds ms1
def dSpX (K : PySem.W.Frag) (n : Nat) (sem : List D → MS → Res D) : Sp := fun vs H Q EX => ∃ ι ms ds, Rel K ι H ms ∧ Rps K ι H ds vs ∧ ds.length = n ∧ Out K (ofX K EX) (Rp K) ι H (sem ds ms) Q
theorem out_at {K : PySem.W.Frag} {E : EW} {ι : Ct} {H : Hp} {r : Res D} {Q : VK} {env : Env} {σ : St} (ev : EnvOk K ι H env σ) (o : Out K E (Rp K) ι H (atEnv env r) Q) : Out K (ofX K (WE (WofE K E) σ)) (Rp K) ι H r Q := by
  cases r with
  | bad => exact o
  | ok a ms => exact o
  | exc x ms => exact fun ι' H' R l cls d hc => ⟨⟨x.c, x.a, env⟩, ι', hc, ev.mono l, o ι' H' R l⟩
theorem outS_runX {K : PySem.W.Frag} {E : EW} {ι : Ct} {H : Hp} {N : Nat} {B : SF} {ds : List D} {ms : MS} {Q : VK} (o : Out K E (Rp K) ι H (runF N B ds ms) Q) : OutS K E ι H (B (envAt N ds) ms) { nx := fun _ H' => Q .non H', rt := Q } := by
  unfold runF at o
  cases q : B (envAt N ds) ms with
  | bad => rw [q] at o; exact o
  | exc x ms1 => rw [q] at o; exact o
  | ok a ms1 =>
    rw [q] at o
    obtain ⟨fl, env1⟩ := a
    cases fl with
    | nx => exact fun σ' ι' H' R l _ => o .non ι' H' R l rfl
    | brk => exact o.elim
    | cont => exact o.elim
    | ret d => exact o
open Classical in
/-- as runT, for what may raise -/
noncomputable def runTX (N : Nat) (B : SF) (args : List D) (ms : MS) : Res D := match runF N B args ms with
  | .bad => .bad
  | .ok d ms1 => match frz ms.length ms1 d with
    | some d' => if Tidy ms.length ms ms1 then .ok d' (ms1.take ms.length) else .bad
    | none => .bad
  | .exc x ms1 => if x.a = none ∧ Tidy ms.length ms ms1 then .exc ⟨x.c, none, []⟩ (ms1.take ms.length) else .bad
section
variable {P : Program} {w : World} {K : PySem.W.Frag} {mg : Str → Option Value} {base : Heap} {x qual : Str} {st : Stmt} {f : Addr} {fd : FuncData} {N ps : List Str} {k : Nat} {B : SF}
theorem fn_runX (F : Fun K x qual st f fd) (S : FnScope N ps (defScope st))
    (hb : ∀ (cdv : Value) (A : Around) (outer : List PySem.Env) (s : Shared) (H : Hp) (EX : XK), Room k (A.deeper (PyProof.Rows.envOfC qual (defScope st) s.heap.objs.size f cdv)) → Takes (cxOf (L2.CX P w) P w K mg base N qual (defScope st) f cdv A outer s H EX) (WofE K (ofX K EX)) →
      PSs (cxOf (L2.CX P w) P w K mg base N qual (defScope st) f cdv A outer s H EX) (defBody st) (tS K (ofX K EX) B)) : FnOk P w K mg base (L2.CX P w) (k + 1) f fd ps (dSpX K ps.length (runF N.length B)) :=
  F.okX S (fun vs H Q E ⟨ι, ms, ds, R, r, hl, o⟩ => r.length.trans hl) fun cdv A outer s H vs Q E hr ⟨ι, ms, ds, R, r, hl, o⟩ => ⟨_, hb cdv A outer s H E hr (takes_def (takes_of rfl rfl rfl rfl)), ι, _, ms, R, env_at r, outS_runX o⟩
theorem fn_runTX (F : Fun K x qual st f fd) (S : FnScope N ps (defScope st))
    (hb : ∀ (cdv : Value) (A : Around) (outer : List PySem.Env) (s : Shared) (H : Hp) (EX : XK), Room k (A.deeper (PyProof.Rows.envOfC qual (defScope st) s.heap.objs.size f cdv)) → Takes (cxOf (L2.CX P w) P w K mg base N qual (defScope st) f cdv A outer s H EX) (WofE K (ofX K EX)) →
      PSs (cxOf (L2.CX P w) P w K mg base N qual (defScope st) f cdv A outer s H EX) (defBody st) (tS K (ofX K EX) B)) : FnOk P w K mg base (L2.CX P w) (k + 1) f fd ps (dSpX K ps.length (runTX N.length B)) :=
  (fn_runX F S hb).imp fun vs H Q EX ⟨ι, ms, ds, R, r, hl, o⟩ => ⟨ι, ms, ds, R, r, hl, by
    unfold runTX at o
    cases q : runF N.length B ds ms with
    | bad => rw [q] at o; exact o
    | exc x ms1 =>
      simp only [q] at o
      intro ι1 H1 R1 l1 cls d hc
      by_cases t : x.a = none ∧ Tidy ms.length ms ms1
      · rw [if_pos t] at o
        obtain ⟨R2, l2⟩ := R.cut l1 R1 t.2
        exact o ι H1 R2 l2 cls d ⟨rfl, hc.2⟩
      · rw [if_neg t] at o; exact o.elim
    | ok d ms1 =>
      simp only [q] at o
      intro v ι1 H1 R1 l1 rd
      cases z : frz ms.length ms1 d with
      | none => simp only [z] at o; exact o.elim
      | some d' =>
        simp only [z] at o
        by_cases t : Tidy ms.length ms ms1
        · rw [if_pos t] at o
          obtain ⟨R2, l2⟩ := R.cut l1 R1 t
          exact o v ι H1 R2 l2 (Rp.frz l1 R1 _ R.len.symm d d' v z rd)
        · rw [if_neg t] at o; exact o.elim⟩
/-- a def that lets nothing out is one of those that may -/
theorem FnOk.toX {ps : List Str} {n : Nat} {sem : List D → MS → Res D} (F : FnOk P w K mg base CX0 k f fd ps (dSp K n sem)) : FnOk P w K mg base (L2.CX P w) k f fd ps (dSpX K n fun ds ms => noExc (sem ds ms)) :=
  ⟨fun vs H Q E ⟨ι, ms, ds, R, r, hl, o⟩ => F.len vs H Q E ⟨ι, ms, ds, R, r, hl, out_noExc o⟩, fun A outer s H args us vs Q E hr e0 b rv ⟨ι, ms, ds, R, r, hl, o⟩ =>
    codeAny_mono (F.run A outer s H args us vs Q E hr e0 b rv ⟨ι, ms, ds, R, r, hl, out_noExc o⟩) fun r s' z => by
      cases r with
      | error e => exact False.elim z
      | ok fl => cases fl <;> exact z⟩
end
/-- a def of the text that may raise -/
structure CalX (P : Program) (w : World) (K : PySem.W.Frag) (mg : Str → Option Value) (base : Heap) (k : Nat) (x : Str) (ps : List Str) (sem : List D → MS → Res D) where
  f : Addr
  fd : FuncData
  ok : FnOk P w K mg base (L2.CX P w) k f fd ps (dSpX K ps.length sem)
  g : mg x = some (.ref f)
  kp : PySem.W.keepIn K (.ref f) = true
  b : Binds K fd ps []
section
variable {X : Cx} {E : EW} {k n : Nat} {ps : List Str} {x : Str} {p pos : Pos} {e : Expr} {es : List Expr} {fs fk : Env → MS → Res (List D)} {sem : List D → MS → Res D}
theorem c_callX (C : CalX X.prog X.w X.K X.mg X.base k x ps sem) (tk : Takes X (WofE X.K E)) (hr : Room k X.A) (ha : DA X E (e :: es) fs) (hg : Gl X x := by rfl) (hdb : (x == ("__debug__" : Str)) = false := by decide) (he : starEach (e :: es) X.env = (false, eval e X.env) :: starEach es X.env := by rfl) (hpl : (backTo pos (starEach es X.env)).any (·.1) = false := by rfl)
    (hn : ps.length = n := by rfl) : DE X E (.Call (.Name x p) (e :: es) [] pos) (callXE fs (callX n sem)) := by
  subst hn
  exact PE.conv (pe_callS C.ok hr hg C.g C.kp C.b (fun σ => passAt tk σ) ha hdb he hpl) fun σ H Q ⟨ι, env, ms, r, ev, o⟩ => tR_seq r ev o fun ι1 H1 ms1 ds vs B o1 => by
    unfold callX at o1
    by_cases h : ds.length = ps.length
    · rw [if_pos h] at o1
      exact ⟨ι1, ms1, ds, B.rel, B.r, h, out_at B.env o1⟩
    · rw [if_neg h] at o1; exact o1.elim
/-! keywords -/
theorem run_fnNS {CX : CXT} {f : Addr} {fd : FuncData} {sp : Sp} {EX : XK} {ks : List Str} {g : List Value → List Value → List Value} {gV : List V → List V → List V} {pins : List (Addr × Obj)} {σ : St} {H : Hp} {s : Shared} {Q : VK} {us ws : List Value} {vs zs : List V} (F : FnOk X.prog X.w X.K X.mg X.base CX k f fd ps sp) (hr : Room k X.A) (hb : KBn X.K fd ps n ks g gV) (hx : PassesAt CX X σ EX)
    (I : Inv X pins σ H s) (r : Vals vs us) (rz : Vals zs ws) (l1 : vs.length = n) (l2 : zs.length = ks.length) (h : sp (gV vs zs) H Q EX) : wpAny (model X.prog X.w) X.A (call (.ref f) us (ks.zip ws)) (EP X pins σ Q) X.xe s := by
  have r2 := hb.rel r rz
  refine wpAny_call (codeAny_mono (F.run X.A X.stack s H ⟨us, ks.zip ws⟩ (g us ws) (gV vs zs) Q EX hr I.env0 (hb.to s us ws I.kIn (r.length.symm.trans l1) (rz.length.symm.trans l2)) r2 h) fun r s' hq => ?_)
  cases r with
  | error e => exact hx pins H s e s' I hq
  | ok fl =>
    cases fl with
    | ret u => exact I.after hq
    | next => exact False.elim hq
    | brk => exact False.elim hq
    | cont => exact False.elim hq
@[simp] def kwX (np n m : Nat) (ix : List Nat) (sem : List D → MS → Res D) (env : Env) (ds es : List D) (ms : MS) : Res D := if ds.length = n ∧ es.length = m ∧ (pick ix (ds ++ es)).length = np then atEnv env (sem (pick ix (ds ++ es)) ms) else .bad
@[simp] def kwXE (fs fk : Env → MS → Res (List D)) (p : Env → List D → List D → MS → Res D) (env : Env) (ms : MS) : Res D := (fs env ms).bind fun ds ms1 => (fk env ms1).bind fun es ms2 => p env ds es ms2
theorem c_callKX0 {np m : Nat} {ks : List Str} {ix : List Nat} {kws : List Keyword} (C : CalX X.prog X.w X.K X.mg X.base k x ps sem) (tk : Takes X (WofE X.K E)) (hr : Room k X.A) (hb : KwB X.K C.fd ps 0 ks ix)
    (hkw : DK X E kws fk) (hg : Gl X x := by rfl) (hall : (backToKw pos (keywordEach kws X.env)).all (·.1.isSome) = true := by rfl) (hks : (backToKw pos (keywordEach kws X.env)).filterMap (·.1) = ks := by rfl)
    (hdb : (x == ("__debug__" : Str)) = false := by decide)
    (hpl : ((backTo pos (starEach [] X.env)).any (·.1) || (backToKw pos (keywordEach kws X.env)).any (·.1.isNone)) = false := by rfl) (h1 : ps.length = np := by rfl) (h2 : ks.length = m := by rfl) : DE X E (.Call (.Name x p) [] kws pos) (kwXE nilA fk (kwX np 0 m ix sem)) := by
  subst h1; subst h2
  refine ⟨fun pins s σ H Q I h => ?_⟩
  have h2 : tAr X.K E fk σ H fun zs H2 => zs.length = ks.length ∧ dSpX X.K ps.length sem (pick ix ([] ++ zs)) H2 Q (WE (WofE X.K E) σ) := by
    obtain ⟨ι, env, ms, r, ev, o⟩ := h
    have o' : Out X.K E (Rp X.K) ι H ((fk env ms).bind fun es ms2 => kwX ps.length 0 ks.length ix sem env [] es ms2) Q := o
    refine tR_seq r ev o' fun ι2 H2 ms2 es zs B2 o2 => ?_
    unfold kwX at o2
    by_cases h : ([] : List D).length = 0 ∧ es.length = ks.length ∧ (pick ix ([] ++ es)).length = ps.length
    · rw [if_pos h] at o2
      exact ⟨B2.r.length.trans h.2.1, ι2, ms2, _, B2.rel, pick_rps B2.r ix, h.2.2, out_at B2.env o2⟩
    · rw [if_neg h] at o2; exact o2.elim
  refine wpAny_Call_Name_kw (ld_glob I hg C.g ?_ hdb)
  refine PySem.W.callWith_KW0 (h₀ := X.base) I.ok.mod.kin C.kp hall (thn (hkw.run pos pins s σ H _ I h2) fun ws s2 ⟨zs, H2, I2, rz, l2, q2⟩ => ⟨I2.kIn, ?_⟩) hpl
  rw [hks]
  exact run_fnNS (vs := []) C.ok hr hb.kbn (passAt tk σ) I2 .nil rz rfl l2 q2
theorem c_callKX {np m : Nat} {ks : List Str} {ix : List Nat} {kws : List Keyword} (C : CalX X.prog X.w X.K X.mg X.base k x ps sem) (tk : Takes X (WofE X.K E)) (hr : Room k X.A) (hb : KwB X.K C.fd ps n ks ix)
    (ha : DA X E (e :: es) fs) (hkw : DK X E kws fk) (hg : Gl X x := by rfl) (hall : (backToKw pos (keywordEach kws X.env)).all (·.1.isSome) = true := by rfl) (hks : (backToKw pos (keywordEach kws X.env)).filterMap (·.1) = ks := by rfl)
    (hdb : (x == ("__debug__" : Str)) = false := by decide) (he : starEach (e :: es) X.env = (false, eval e X.env) :: starEach es X.env := by rfl)
    (hpl : ((backTo pos (starEach (e :: es) X.env)).any (·.1) || (backToKw pos (keywordEach kws X.env)).any (·.1.isNone)) = false := by rfl) (h1 : ps.length = np := by rfl) (h2 : ks.length = m := by rfl) : DE X E (.Call (.Name x p) (e :: es) kws pos) (kwXE fs fk (kwX np n m ix sem)) := by
  subst h1; subst h2
  refine ⟨fun pins s σ H Q I h => ?_⟩
  have h2 : tAr X.K E fs σ H fun vs H1 => tAr X.K E fk σ H1 fun zs H2 => vs.length = n ∧ zs.length = ks.length ∧ dSpX X.K ps.length sem (pick ix (vs ++ zs)) H2 Q (WE (WofE X.K E) σ) := by
    obtain ⟨ι, env, ms, r, ev, o⟩ := h
    refine tR_seq r ev o fun ι1 H1 ms1 ds vs B1 o1 => ?_
    refine tR_seq B1.rel B1.env o1 fun ι2 H2 ms2 es zs B2 o2 => ?_
    unfold kwX at o2
    by_cases h : ds.length = n ∧ es.length = ks.length ∧ (pick ix (ds ++ es)).length = ps.length
    · rw [if_pos h] at o2
      have r1 := Rps.mono B2.le _ _ B1.r
      exact ⟨r1.length.trans h.1, B2.r.length.trans h.2.1, ι2, ms2, _, B2.rel, pick_rps (r1.append B2.r) ix, h.2.2, out_at B2.env o2⟩
    · rw [if_neg h] at o2; exact o2.elim
  refine wpAny_Call_Name_kw (ld_glob I hg C.g ?_ hdb)
  refine PySem.W.callWith_KW (h₀ := X.base) I.ok.mod.kin C.kp hall (thn (ha.run pos pins s σ H _ I h2) fun us s1 ⟨vs, H1, I1, r, q⟩ => ?_) hpl he
  refine thn (hkw.run pos pins s1 σ H1 _ I1 q) fun ws s2 ⟨zs, H2, I2, rz, l1, l2, q2⟩ => ⟨I2.kIn, ?_⟩
  rw [hks]
  exact run_fnNS C.ok hr hb.kbn (passAt tk σ) I2 r rz l1 l2 q2
/-! raise -/
/-- an own exception class without fields -/
structure XC (K : PySem.W.Frag) (mg : Str → Option Value) (c : Str) where
  C : Addr
  bn : String
  newId : String
  initId : String
  bmB : List Value
  F : ExcBaseFacts bn newId initId bmB
  q : PySem.W.excIn K C bmB newId = true
  g0 : PySem.W.nsIn K mainGlobals c = some (some (.ref C))
  g : mg c = some (.ref C)
  kp : PySem.W.keepIn K (.ref C) = true
  sub : PySem.W.subIn K (.ref C) (.type "BaseException") = some true
  ty : PySem.W.typeIn K (.ref C) = some (.type "type")
@[simp] def raiseS (c : Str) (fs : Env → MS → Res (List D)) : SF := fun env ms => (fs env ms).bind fun ds ms1 => if ds.length ≤ LIM then .exc ⟨c, none, env⟩ ms1 else .bad
theorem s_raise {c : Str} {pos' : Pos} (T : XC X.K X.mg c) (tk : Takes X (WofE X.K E)) (ha : DA X E (e :: es) fs) (hc : X.calm = true := by rfl) (hg : Gl X c := by rfl) (hdb : (c == ("__debug__" : Str)) = false := by decide)
    (he : starEach (e :: es) X.env = (false, eval e X.env) :: starEach es X.env := by rfl) (hpl : (backTo pos (starEach es X.env)).any (·.1) = false := by rfl) : DS X E (.Raise (some (.Call (.Name c p) (e :: es) [] pos)) none pos') (raiseS c fs) :=
  PS.conv (ps_raise hc tk (pmk_ownA T.F T.q T.g T.kp (raises_own T.sub T.ty) hg ha hdb he hpl)) fun σ H D ⟨ι, env, ms, r, ev, o⟩ => tR_seqS r ev o fun ι1 H1 ms1 ds vs B o1 => by
    by_cases h : ds.length ≤ LIM
    · rw [if_pos h] at o1
      exact ⟨by rw [B.r.length, ← lim_eq]; exact h, ⟨c, none, env⟩, ι1, ⟨rfl, rfl, T.C, rfl, T.g0⟩, B.env, o1 ι1 H1 B.rel .refl⟩
    · rw [if_neg h] at o1; exact o1.elim
theorem exm_mk {K : PySem.W.Frag} {C C' : Addr} {b : Bool} (h1 : PySem.W.subIn K (.ref C') (.type "BaseException") = some true) (h2 : PySem.W.isClsIn K C' = true) (h3 : PySem.W.typeIn K (.ref C') = some (.type "type")) (h4 : PySem.W.subIn K (.ref C) (.ref C') = some b) : PySem.W.exmOne K (.ref C) (.ref C') = some b := by
  have h2' : (PySem.W.clsIn K C').isSome = true := h2
  unfold PySem.W.exmOne PySem.W.kitCls
  simp only [h1, h2', h3, h4, beq_self_eq_true, Bool.and_self, if_true]
/-! try, one clause -/
/-- a class that is caught; classes that it does not catch -/
structure TC (K : PySem.W.Frag) (mg : Str → Option Value) (c : Str) (L : List Str) where
  C : Addr
  g0 : PySem.W.nsIn K mainGlobals c = some (some (.ref C))
  g : mg c = some (.ref C)
  yes : PySem.W.exmOne K (.ref C) (.ref C) = some true
  no : ∀ c', c' ∈ L → ∃ C', PySem.W.nsIn K mainGlobals c' = some (some (.ref C')) ∧ PySem.W.exmOne K (.ref C') (.ref C) = some false
@[simp] def tryS (c : Str) (L : List Str) (B Hd : SF) : SF := fun env ms => match B env ms with
  | .exc x ms1 => if x.c = c then noExc (Hd x.env ms1) else if x.c ∈ L then .exc x ms1 else .bad
  | .ok a ms1 => .ok a ms1
  | .bad => .bad
theorem outS_ok {K : PySem.W.Frag} {E E' : EW} {ι : Ct} {H : Hp} {a : SR} {ms : MS} {D : Ends} (o : OutS K E ι H (.ok a ms) D) : OutS K E' ι H (.ok a ms) D := by
  obtain ⟨fl, env⟩ := a
  cases fl <;> exact o
theorem outS_noExc {K : PySem.W.Frag} {E E' : EW} {ι : Ct} {H : Hp} {r : Res SR} {D : Ends} (o : OutS K E ι H (noExc r) D) : OutS K E' ι H r D := by
  cases r with
  | bad => exact o
  | exc x ms => exact o.elim
  | ok a ms => exact outS_ok o
theorem s_try {c : Str} {L : List Str} {body suite : List Stmt} {b₀ : Stmt} {np pos' : Pos} {B Hd : SF} (T : TC X.K X.mg c L) (tk : Takes X (WofE X.K E))
    (hb : ∀ (E' : EW) (pn : List (Addr × Obj)) (xe : Value → Shared → Prop), Takes (X.tr pn xe) (WofE X.K E') → DSs (X.tr pn xe) E' body B)
    (hsu : ∀ (a : Addr) (oe : Obj) (pn : List (Addr × Obj)), DSs (X.suite a ((a, oe) :: pn)) E00 (b₀ :: suite) Hd)
    (hg : Gl X c := by rfl) (hdb : (c == ("__debug__" : Str)) = false := by decide) (hs : X.stack = X.env :: X.outer := by rfl) (hf : X.env.frame = some X.env.locals := by rfl) :
    DS X E (.Try body [.ExceptHandler (some (.Name c np)) none (b₀ :: suite) pos'] [] [] pos) (tryS c L B Hd) :=
  PS.conv (ps_try_only (c := .ref T.C) (tb := fun W => tS X.K (EofW X.K W) B) (ts := fun _ _ _ => tS X.K E00 Hd) (Wout := WofE X.K E) hs hf ⟨hg, hdb, .inl T.g⟩ tk
    (fun W pn xe t _ => hb _ pn xe (takes_E t)) (fun a oe cls d pn _ _ => hsu a oe pn)) fun σ H D ⟨ι, env, ms, r, ev, o⟩ => ⟨ι, env, ms, r, ev, by
      unfold tryS at o
      cases q : B env ms with
      | bad => simp only [q] at o; exact o
      | ok a ms1 => simp only [q] at o; exact outS_ok o
      | exc x ms1 =>
        simp only [q] at o
        intro ι' H' R' l' σ' cls d ev' hc
        obtain ⟨ha, hd, C', rfl, hC'⟩ := id hc
        by_cases h : x.c = c
        · rw [if_pos h] at o
          have hC : C' = T.C := by
            rw [h, T.g0] at hC'
            cases hC'; rfl
          subst hC
          exact ⟨true, T.yes, fun _ a na => ⟨ι', x.env, ms1, R', ev', OutS.from l' (outS_noExc o)⟩, fun z => Bool.noConfusion z⟩
        · rw [if_neg h] at o
          by_cases h2 : x.c ∈ L
          · rw [if_pos h2] at o
            obtain ⟨C2, e1, e2⟩ := T.no _ h2
            rw [e1] at hC'
            cases hC'
            exact ⟨false, e2, (fun z => Bool.noConfusion z), fun _ => ⟨x, ι', hc, ev', o ι' H' R' l'⟩⟩
          · rw [if_neg h2] at o; exact o.elim⟩
end
end DL

set_option maxHeartbeats 1000000
namespace DL
open PySem PySem.Spec L2
open PyProof.Rows hiding St

/-! ### int(..) of a text too; str(..) of an int, of a text -/
@[simp] def intTP (ds : List D) (ms : MS) : Res D := match ds with
  | [.int i] => .ok (.int i) ms
  | [.bl k] => .ok (.int (if k then 1 else 0)) ms
  | [.str x] => match PySem.intText? x with
    | some n => if x.length ≤ 640 then .ok (.int n) ms else .bad
    | none => .bad
  | _ => .bad
@[simp] def strP (ds : List D) (ms : MS) : Res D := match ds with
  | [.int i] => if i.natAbs.log2 < 1920 then .ok (.str (Str.ofString (toString i))) ms else .bad
  | [.str x] => .ok (.str x) ms
  | _ => .bad
section
variable {K : PySem.W.Frag} {E : EW}
theorem p_toIntT : PC1 K E (fun xs H Q => ((∃ i, xs = [.int i] ∧ Q (.int i) H) ∨ ∃ k, xs = [.bl k] ∧ Q (.int (if k then 1 else 0)) H) ∨ ∃ a n, xs = [.str a] ∧ PySem.intText? a = some n ∧ a.length ≤ 640 ∧ Q (.int n) H) intTP := by
  intro ι H ms ds vs Q R r o
  match ds, r, o with
  | [.int i], r, o => obtain ⟨v, rfl, h⟩ := r.one; exact .inl (.inl ⟨i, by rw [show v = V.int i from h], o _ ι H R .refl rfl⟩)
  | [.bl k], r, o => obtain ⟨v, rfl, h⟩ := r.one; exact .inl (.inr ⟨k, by rw [show v = V.bl k from h], o _ ι H R .refl rfl⟩)
  | [.str x], r, o =>
    obtain ⟨v, rfl, h⟩ := r.one
    unfold intTP at o
    cases e : PySem.intText? x with
    | none => simp only [e] at o; exact o.elim
    | some n =>
      simp only [e] at o
      by_cases hl : x.length ≤ 640
      · rw [if_pos hl] at o
        exact .inr ⟨x, n, by rw [show v = V.str x from h], e, hl, o _ ι H R .refl rfl⟩
      · rw [if_neg hl] at o; exact o.elim
  | [.non], _, o => exact o.elim
  | [.tup _], _, o => exact o.elim
  | [.lst _], _, o => exact o.elim
  | [.ro _], _, o => exact o.elim
  | [.ptr _], _, o => exact o.elim
  | [], _, o => exact o.elim
  | _ :: _ :: _, _, o => unfold intTP at o; split at o <;> first | exact o.elim | (rename_i e; cases e)
theorem p_toStr : PC1 K E (fun xs H Q => (∃ i, xs = [.int i] ∧ i.natAbs.log2 < 1920 ∧ Q (.str (toString i)) H) ∨ ∃ a, xs = [.str a] ∧ Q (.str a) H) strP := by
  intro ι H ms ds vs Q R r o
  match ds, r, o with
  | [.int i], r, o =>
    obtain ⟨v, rfl, h⟩ := r.one
    unfold strP at o
    by_cases hl : i.natAbs.log2 < 1920
    · simp only [if_pos hl] at o
      exact .inl ⟨i, by rw [show v = V.int i from h], hl, o _ ι H R .refl rfl⟩
    · simp only [if_neg hl] at o; exact o.elim
  | [.str x], r, o => obtain ⟨v, rfl, h⟩ := r.one; exact .inr ⟨x, by rw [show v = V.str x from h], o _ ι H R .refl rfl⟩
  | [.bl _], _, o => exact o.elim
  | [.non], _, o => exact o.elim
  | [.tup _], _, o => exact o.elim
  | [.lst _], _, o => exact o.elim
  | [.ro _], _, o => exact o.elim
  | [.ptr _], _, o => exact o.elim
  | [], _, o => exact o.elim
  | _ :: _ :: _, _, o => unfold strP at o; split at o <;> first | exact o.elim | (rename_i e; cases e)
variable {X : Cx}
/-! a text, so many times -/
@[simp] def mulSD : D → D → MS → Res D
  | .str a, .int n, ms => if 0 ≤ n ∧ n ≤ 1000 ∧ a.length ≤ 1000 then .ok (.str (Txt.mul a n)) ms else .bad
  | _, _, _ => .bad
theorem mulOk_of {a : Str} {n : Int} (h : 0 ≤ n ∧ n ≤ 1000 ∧ a.length ≤ 1000) : MulOk a n := by
  obtain ⟨h1, h2, h3⟩ := h
  refine ⟨?_, fun h _ => ?_, fun h _ => ?_⟩
  · rw [decide_eq_false (by omega), decide_eq_false (by omega)]; rfl
  · have : (1000 : Int) ≤ (2 ^ 63 - 1) / n := Int.le_ediv_of_mul_le (by omega) (by omega)
    omega
  · have h4 : a.length * n.toNat ≤ 1000 * 1000 := Nat.mul_le_mul h3 (by omega)
    show PySem.Builtin.Str.tooLong _ = false
    unfold PySem.Builtin.Str.tooLong
    first
      | exact decide_eq_false (by rw [sizeLine_eq]; omega)
      | exact decide_eq_false (by omega)
      | (simp; rw [sizeLine_eq]; omega)
theorem op_mul_str : OpR X (binaryOp .Mult) (fun x y H Q => ∃ a n, x = .str a ∧ y = .int n ∧ MulOk a n ∧ Q (.str (Txt.mul a n)) H) := by
  intro pins s σ H x y v u Q I rx ry h
  obtain ⟨a, n, rfl, rfl, hz, q⟩ := h
  obtain ⟨t, rfl⟩ := rx
  obtain ⟨t', rfl⟩ := ry
  exact SB.mul hz fun t' k => ⟨.str (Txt.mul a n), H, I.tok _, ⟨_, rfl⟩, q⟩
theorem p_mulS : P2 K E (fun x y H Q => ∃ a n, x = .str a ∧ y = .int n ∧ MulOk a n ∧ Q (.str (Txt.mul a n)) H) mulSD := by
  intro ι H ms a b x y Q R ra rb o
  cases a with
  | str a =>
    cases b with
    | int n =>
      have o' : Out K E (Rp K) ι H (if 0 ≤ n ∧ n ≤ 1000 ∧ a.length ≤ 1000 then .ok (.str (Txt.mul a n)) ms else .bad) Q := o
      by_cases h : 0 ≤ n ∧ n ≤ 1000 ∧ a.length ≤ 1000
      · rw [if_pos h] at o'
        exact ⟨a, n, ra, rb, mulOk_of h, o' _ ι H R .refl rfl⟩
      · rw [if_neg h] at o'; exact o'.elim
    | _ => exact o.elim
  | _ => exact o.elim
variable {a b : Expr} {f g : Env → MS → Res D} {pos : Pos}
theorem d_mulS (ha : DE X E a f) (hb : DE X E b g) : DE X E (.BinOp a .Mult b pos) (binE f g mulSD) := d_op op_mul_str p_mulS ha hb
end
end DL

set_option maxHeartbeats 1000000
namespace DL
open PySem PySem.Spec L2
open PyProof.Rows hiding St

/-! ### == of plain data: the same data -/
mutual
/-- without places, of texts that may be, at most so deep -/
def okD : Nat → D → Bool
  | _, .non => true
  | _, .bl _ => true
  | _, .int _ => true
  | _, .str x => PyData.strOk x
  | 0, .tup _ => false
  | k + 1, .tup ds => okDs k ds
  | 0, .lst _ => false
  | k + 1, .lst ds => okDs k ds
  | 0, .ro _ => false
  | k + 1, .ro ds => okDs k ds
  | _, .ptr _ => false
def okDs : Nat → List D → Bool
  | _, [] => true
  | k, d :: ds => okD k d && okDs k ds
end
mutual
/-- without truths -/
def noB : D → Bool
  | .bl _ => false
  | .ro _ => false
  | .ptr _ => false
  | .tup ds => noBs ds
  | .lst ds => noBs ds
  | _ => true
def noBs : List D → Bool
  | [] => true
  | d :: ds => noB d && noBs ds
end
mutual
theorem py_of : ∀ (d : D) (k : Nat), okD k d = true → ∃ q, pyD d = some q ∧ PyData.canLay0 q = true ∧ PyData.depth q ≤ k
  | .non, k, _ => ⟨.none, rfl, rfl, Nat.zero_le _⟩
  | .bl b, k, _ => ⟨.bool b, rfl, rfl, Nat.zero_le _⟩
  | .int i, k, _ => ⟨.int i, rfl, rfl, Nat.zero_le _⟩
  | .str x, k, h => ⟨.str x, rfl, (by cases k <;> exact h), Nat.zero_le _⟩
  | .tup ds, 0, h => by cases h
  | .tup ds, k + 1, h => by
    obtain ⟨ps, e, h1, h2⟩ := pys_of ds k h
    exact ⟨.tuple ps, (by show (pyDs ds).map PyData.tuple = _; rw [e]; rfl), h1, (by show PyData.depthAll ps + 1 ≤ k + 1; omega)⟩
  | .lst ds, 0, h => by cases h
  | .lst ds, k + 1, h => by
    obtain ⟨ps, e, h1, h2⟩ := pys_of ds k h
    exact ⟨.list ps, (by show (pyDs ds).map PyData.list = _; rw [e]; rfl), h1, (by show PyData.depthAll ps + 1 ≤ k + 1; omega)⟩
  | .ro ds, 0, h => by cases h
  | .ro ds, k + 1, h => by
    obtain ⟨ps, e, h1, h2⟩ := pys_of ds k h
    exact ⟨.list ps, (by show (pyDs ds).map PyData.list = _; rw [e]; rfl), h1, (by show PyData.depthAll ps + 1 ≤ k + 1; omega)⟩
  | .ptr n, k, h => by cases k <;> cases h
theorem pys_of : ∀ (ds : List D) (k : Nat), okDs k ds = true → ∃ qs, pyDs ds = some qs ∧ PyData.canLayAll0 qs = true ∧ PyData.depthAll qs ≤ k
  | [], k, _ => ⟨[], rfl, rfl, Nat.zero_le _⟩
  | d :: ds, k, h => by
    have h' : (okD k d && okDs k ds) = true := h
    rw [Bool.and_eq_true] at h'
    obtain ⟨q, e, h1, h2⟩ := py_of d k h'.1
    obtain ⟨qs, es, g1, g2⟩ := pys_of ds k h'.2
    refine ⟨q :: qs, ?_, ?_, ?_⟩
    · unfold pyDs; rw [e, es]
    · show (PyData.canLay0 q && PyData.canLayAll0 qs) = true
      rw [h1, g1]; rfl
    · show max (PyData.depth q) (PyData.depthAll qs) ≤ k
      omega
end
mutual
theorem eqv_self : ∀ (d : D) (p : PyData), pyD d = some p → PyData.eqv p p = true
  | .non, _, h => by cases h; rfl
  | .bl b, _, h => by cases h; exact beq_self_eq_true b
  | .int i, _, h => by cases h; exact beq_self_eq_true i
  | .str x, _, h => by cases h; exact beq_self_eq_true x
  | .tup ds, p, h => by
    have h' : (pyDs ds).map PyData.tuple = some p := h
    cases e : pyDs ds with
    | none => rw [e] at h'; cases h'
    | some ps => rw [e] at h'; cases h'; exact eqvs_self ds ps e
  | .lst ds, p, h => by
    have h' : (pyDs ds).map PyData.list = some p := h
    cases e : pyDs ds with
    | none => rw [e] at h'; cases h'
    | some ps => rw [e] at h'; cases h'; exact eqvs_self ds ps e
  | .ro ds, p, h => by
    have h' : (pyDs ds).map PyData.list = some p := h
    cases e : pyDs ds with
    | none => rw [e] at h'; cases h'
    | some ps => rw [e] at h'; cases h'; exact eqvs_self ds ps e
  | .ptr n, _, h => by cases h
theorem eqvs_self : ∀ (ds : List D) (ps : List PyData), pyDs ds = some ps → PyData.eqvAll ps ps = true
  | [], _, h => by cases h; rfl
  | d :: ds, ps, h => by
    unfold pyDs at h
    cases e : pyD d with
    | none => rw [e] at h; cases h
    | some q =>
      cases es : pyDs ds with
      | none => rw [e, es] at h; cases h
      | some qs =>
        rw [e, es] at h
        cases h
        show (PyData.eqv q q && PyData.eqvAll qs qs) = true
        rw [eqv_self d q e, eqvs_self ds qs es]; rfl
end
mutual
theorem eqv_same : ∀ (d e : D) (p q : PyData), noB d = true → noB e = true → pyD d = some p → pyD e = some q → PyData.eqv p q = true → d = e
  | .bl b, _, _, _, n, _, _, _, _ => by cases n
  | .ro b, _, _, _, n, _, _, _, _ => by cases n
  | .ptr b, _, _, _, n, _, _, _, _ => by cases n
  | .non, e, p, q, _, n, h, h', v => by
    cases h
    cases e with
    | non => rfl
    | int _ => cases h'; cases v
    | str _ => cases h'; cases v
    | tup ds => (have z : (pyDs ds).map PyData.tuple = some q := h'); cases w : pyDs ds <;> rw [w] at z <;> cases z; cases v
    | lst ds => (have z : (pyDs ds).map PyData.list = some q := h'); cases w : pyDs ds <;> rw [w] at z <;> cases z; cases v
    | _ => cases n
  | .int i, e, p, q, _, n, h, h', v => by
    cases h
    cases e with
    | int j => cases h'; exact congrArg D.int (beq_iff_eq.mp v)
    | non => cases h'; cases v
    | str _ => cases h'; cases v
    | tup ds => (have z : (pyDs ds).map PyData.tuple = some q := h'); cases w : pyDs ds <;> rw [w] at z <;> cases z; cases v
    | lst ds => (have z : (pyDs ds).map PyData.list = some q := h'); cases w : pyDs ds <;> rw [w] at z <;> cases z; cases v
    | _ => cases n
  | .str x, e, p, q, _, n, h, h', v => by
    cases h
    cases e with
    | str y => cases h'; exact congrArg D.str (beq_iff_eq.mp v)
    | non => cases h'; cases v
    | int _ => cases h'; cases v
    | tup ds => (have z : (pyDs ds).map PyData.tuple = some q := h'); cases w : pyDs ds <;> rw [w] at z <;> cases z; cases v
    | lst ds => (have z : (pyDs ds).map PyData.list = some q := h'); cases w : pyDs ds <;> rw [w] at z <;> cases z; cases v
    | _ => cases n
  | .tup ds, e, p, q, m, n, h, h', v => by
    have z : (pyDs ds).map PyData.tuple = some p := h
    cases w : pyDs ds with
    | none => rw [w] at z; cases z
    | some ps =>
      rw [w] at z; cases z
      cases e with
      | tup es =>
        have z' : (pyDs es).map PyData.tuple = some q := h'
        cases w' : pyDs es with
        | none => rw [w'] at z'; cases z'
        | some qs => rw [w'] at z'; cases z'; exact congrArg D.tup (eqvs_same ds es ps qs m n w w' v)
      | lst es =>
        have z' : (pyDs es).map PyData.list = some q := h'
        cases w' : pyDs es <;> rw [w'] at z' <;> cases z'
        cases v
      | non => cases h'; cases v
      | int _ => cases h'; cases v
      | str _ => cases h'; cases v
      | _ => cases n
  | .lst ds, e, p, q, m, n, h, h', v => by
    have z : (pyDs ds).map PyData.list = some p := h
    cases w : pyDs ds with
    | none => rw [w] at z; cases z
    | some ps =>
      rw [w] at z; cases z
      cases e with
      | lst es =>
        have z' : (pyDs es).map PyData.list = some q := h'
        cases w' : pyDs es with
        | none => rw [w'] at z'; cases z'
        | some qs => rw [w'] at z'; cases z'; exact congrArg D.lst (eqvs_same ds es ps qs m n w w' v)
      | tup es =>
        have z' : (pyDs es).map PyData.tuple = some q := h'
        cases w' : pyDs es <;> rw [w'] at z' <;> cases z'
        cases v
      | non => cases h'; cases v
      | int _ => cases h'; cases v
      | str _ => cases h'; cases v
      | _ => cases n
theorem eqvs_same : ∀ (ds es : List D) (ps qs : List PyData), noBs ds = true → noBs es = true → pyDs ds = some ps → pyDs es = some qs → PyData.eqvAll ps qs = true → ds = es
  | [], [], _, _, _, _, _, _, _ => rfl
  | [], e :: es, ps, qs, _, _, h, h', v => by
    cases h
    unfold pyDs at h'
    cases w : pyD e <;> cases w' : pyDs es <;> rw [w, w'] at h' <;> cases h'
    cases v
  | d :: ds, [], ps, qs, _, _, h, h', v => by
    cases h'
    unfold pyDs at h
    cases w : pyD d <;> cases w' : pyDs ds <;> rw [w, w'] at h <;> cases h
    cases v
  | d :: ds, e :: es, ps, qs, m, n, h, h', v => by
    unfold pyDs at h h'
    have m' : (noB d && noBs ds) = true := m
    have n' : (noB e && noBs es) = true := n
    rw [Bool.and_eq_true] at m' n'
    cases w : pyD d with
    | none => rw [w] at h; cases h
    | some p =>
      cases w' : pyDs ds with
      | none => rw [w, w'] at h; cases h
      | some ps' =>
        rw [w, w'] at h; cases h
        cases u : pyD e with
        | none => rw [u] at h'; cases h'
        | some q =>
          cases u' : pyDs es with
          | none => rw [u, u'] at h'; cases h'
          | some qs' =>
            rw [u, u'] at h'; cases h'
            have v' : (PyData.eqv p q && PyData.eqvAll ps' qs') = true := v
            rw [Bool.and_eq_true] at v'
            rw [eqv_same d e p q m'.1 n'.1 w u v'.1, eqvs_same ds es ps' qs' m'.2 n'.2 w' u' v'.2]
end
theorem toPy_pyD {ms : MS} {d : D} {q : PyData} (h : pyD d = some q) : toPy ms d = some q := by
  cases d with
  | ptr n => cases h
  | _ => exact h
/-- what is compared: data, or the list that stands in a cell -/
def rdD (ms : MS) : D → D
  | .ptr n => match ms[n]? with
    | some (.lst ds) => .lst ds
    | _ => .ptr n
  | d => d
theorem toPy_rd (ms : MS) (d : D) : toPy ms d = pyD (rdD ms d) := by
  cases d with
  | ptr n =>
    cases e : ms[n]? with
    | none => simp only [toPy, rdD, e]; rfl
    | some c => cases c <;> (simp only [toPy, rdD, e]; rfl)
  | _ => rfl
theorem eqG_self {a b : D} {ms : MS} {k : Nat} (hab : rdD ms a = rdD ms b) (h : okD k (rdD ms a) = true) (hk : k ≤ 64) : eqG a b ms = .ok (.bl true) ms ∧ neG a b ms = .ok (.bl false) ms := by
  obtain ⟨q, e, h1, h2⟩ := py_of _ _ h
  unfold eqG neG
  rw [toPy_rd, toPy_rd, ← hab, e]
  have s : SeqAt.shaped q = true := by
    unfold SeqAt.shaped
    rw [h1, Bool.true_and]
    exact decide_eq_true (by omega)
  simp only [s, Bool.and_self, if_true, eqv_self _ _ e, Bool.not_true, and_self]
theorem eqG_ne {a b : D} {ms : MS} {k : Nat} (hab : rdD ms a ≠ rdD ms b) (h : okD k (rdD ms a) = true) (h' : okD k (rdD ms b) = true) (n : noB (rdD ms a) = true) (n' : noB (rdD ms b) = true) (hk : k ≤ 64) : eqG a b ms = .ok (.bl false) ms ∧ neG a b ms = .ok (.bl true) ms := by
  obtain ⟨q, e, h1, h2⟩ := py_of _ _ h
  obtain ⟨q', e', h1', h2'⟩ := py_of _ _ h'
  unfold eqG neG
  rw [toPy_rd, toPy_rd, e, e']
  have s : SeqAt.shaped q = true := by
    unfold SeqAt.shaped
    rw [h1, Bool.true_and]
    exact decide_eq_true (by omega)
  have s' : SeqAt.shaped q' = true := by
    unfold SeqAt.shaped
    rw [h1', Bool.true_and]
    exact decide_eq_true (by omega)
  have v : PyData.eqv q q' = false := by
    cases v : PyData.eqv q q' with
    | false => rfl
    | true => exact absurd (eqv_same _ _ _ _ n n' e e' v) hab
  simp only [s, s', Bool.and_self, if_true, v, Bool.not_false, and_self]
/-- a list and the empty one -/
theorem eqG_nil {a : D} {ds : List D} {ms : MS} {k : Nat} (ha : rdD ms a = .lst ds) (h : okDs k ds = true) (hk : k ≤ 63) : eqG a (.lst []) ms = .ok (.bl ds.isEmpty) ms ∧ neG a (.lst []) ms = .ok (.bl (!ds.isEmpty)) ms := by
  obtain ⟨qs, e, h1, h2⟩ := pys_of _ _ h
  have e1 : pyD (.lst ds) = some (.list qs) := by show (pyDs ds).map PyData.list = _; rw [e]; rfl
  unfold eqG neG
  rw [toPy_rd, ha, e1, show toPy ms (.lst []) = some (.list []) from rfl]
  have s : SeqAt.shaped (.list qs) = true := by
    unfold SeqAt.shaped
    rw [show PyData.canLay0 (.list qs) = PyData.canLayAll0 qs from rfl, h1, Bool.true_and]
    exact decide_eq_true (by show PyData.depthAll qs + 1 ≤ 64; omega)
  have s' : SeqAt.shaped (.list []) = true := by decide +kernel
  simp only [s, s', Bool.and_self, if_true]
  cases ds with
  | nil => cases e; exact ⟨rfl, rfl⟩
  | cons d ds =>
    unfold pyDs at e
    cases w : pyD d <;> cases w' : pyDs ds <;> rw [w, w'] at e <;> cases e
    exact ⟨rfl, rfl⟩
theorem okDs_iff {k : Nat} {ds : List D} : okDs k ds = true ↔ ∀ d ∈ ds, okD k d = true := by
  induction ds with
  | nil => exact ⟨(fun _ _ h => nomatch h), fun _ => rfl⟩
  | cons d ds ih =>
    show (okD k d && okDs k ds) = true ↔ _
    rw [Bool.and_eq_true, ih]
    simp
theorem noBs_iff {ds : List D} : noBs ds = true ↔ ∀ d ∈ ds, noB d = true := by
  induction ds with
  | nil => exact ⟨(fun _ _ h => nomatch h), fun _ => rfl⟩
  | cons d ds ih =>
    show (noB d && noBs ds) = true ↔ _
    rw [Bool.and_eq_true, ih]
    simp
end DL

set_option maxHeartbeats 1000000
namespace DL
open PySem PySem.Spec L2
open PyProof.Rows hiding St

/-! ### {k: v for .. in ..}: the dict is a cell from the start -/
def dcLoop (nx : Nat → MS → WOut) (step : D → MS → Res (Option (D × D))) (c : Nat) : Nat → Nat → MS → Res Unit
  | 0, _, _ => .bad
  | n + 1, i, ms => match nx i ms with
    | .bad => .bad
    | .stop => .ok () ms
    | .item d => (step d ms).bind fun o ms1 => match o with
      | none => dcLoop nx step c n (i + 1) ms1
      | some (y, z) => match keyOf y, cellK ms1 (.ptr c) with
        | some k, some (_, fs) => if fs.length < LIM then dcLoop nx step c n (i + 1) (ms1.set c (.dK (putD fs k z))) else .bad
        | _, _ => .bad
@[simp] def stepOfD (T : TF) (t : Env → MS → Res Bool) (fk fv : Env → MS → Res D) (env : Env) : D → MS → Res (Option (D × D)) := fun d ms =>
  noExc ((T d env ms).bind fun env1 ms1 => (t env1 ms1).bind fun b ms2 => if b = true then (fk env1 ms2).bind fun y ms3 => (fv env1 ms3).bind fun z ms4 => .ok (some (y, z)) ms4 else .ok none ms2)
@[simp] def dcompE (g : Env → MS → Res Src) (T : TF) (t : Env → MS → Res Bool) (fk fv : Env → MS → Res D) (vs : List Nat) (env : Env) (ms : MS) : Res D :=
  (g env ms).bind fun s ms1 => (noExc (dcLoop s.nx (stepOfD T t fk fv (wipeE env vs)) ms1.length s.n 0 (ms1 ++ [.dK []]))).bind fun _ ms2 => .ok (.ptr ms1.length) ms2
theorem dcomp_read {K : PySem.W.Frag} {E : EW} {g : Env → MS → Res Src} {gg : TG} {T : TF} {t : Env → MS → Res Bool} {fk fv : Env → MS → Res D} {vs : List Nat} (tk : TOk K E00 vs gg T)
    {σ : St} {H : Hp} {Q : VK} (h : tD K E (dcompE g T t fk fv vs) σ H Q) : tDc (tI K E g) gg (tT K E00 t) (tD K E00 fk) (tD K E00 fv) vs σ H Q := by
  obtain ⟨ι, env, ms, r, ev, o⟩ := h
  refine ⟨ι, env, ms, r, ev, ?_⟩
  unfold dcompE at o
  cases q : g env ms with
  | bad => rw [q] at o; exact o
  | exc x ms1 => rw [q] at o; exact o
  | ok s ms1 =>
    simp only [q, bind_ok] at o
    intro J ι1 H1 us R1 l1 rs jok D0 h0
    have o := Out.from l1 o
    have ln := Le.newM (o := .dK []) R1 h0
    have hat : (ι1.push D0).a[ms1.length]? = some D0 := by
      show (ι1.a ++ [D0])[ms1.length]? = some D0
      rw [← R1.len, List.getElem?_append_right (Nat.le_refl _)]
      simp
    refine ⟨fun i m H2 => ∃ ι2 ms2, Rel K ι2 H2 ms2 ∧ EnvOk K ι2 H2 env σ ∧ Rps K ι2 H2 s.ds us ∧ ι2.a[ms1.length]? = some D0 ∧ Le ι1 H1 ι2 H2 ∧ Out K E (Rp K) ι1 H1 ((noExc (dcLoop s.nx (stepOfD T t fk fv (wipeE env vs)) ms1.length m i ms2)).bind fun _ ms2 => .ok (.ptr ms1.length) ms2) Q,
      ⟨s.n, ι1.push D0, ms1 ++ [.dK []], R1.newM (c := .dK []) h0 ⟨[], upd_same, rfl, rfl⟩, (ev.mono l1).mono ln, Rps.mono ln _ _ rs, hat, ln, o⟩, ?_⟩
    rintro i m H2 ⟨ι2, ms2, R2, ev2, rs2, hat2, l2, o2⟩
    cases m with
    | zero => exact o2.elim
    | succ m =>
      have js := jok ι2 H2 ms2 i R2 rs2
      unfold dcLoop at o2
      cases w : s.nx i ms2 with
      | bad => simp only [w] at o2; exact o2.elim
      | stop =>
        simp only [w] at o2
        rw [w] at js
        exact .inl ⟨js, o2 (.ref D0) ι2 H2 R2 l2 ⟨D0, rfl, hat2⟩⟩
      | item d =>
        simp only [w] at o2
        rw [w] at js
        refine .inr ⟨js.1, fun H2 => ∃ ι2 ms2, Rel K ι2 H2 ms2 ∧ EnvOk K ι2 H2 env σ ∧ Rps K ι2 H2 s.ds us ∧ ι2.a[ms1.length]? = some D0 ∧ Le ι1 H1 ι2 H2 ∧ Out K E (Rp K) ι1 H1 ((noExc (dcLoop s.nx (stepOfD T t fk fv (wipeE env vs)) ms1.length m (i + 1) ms2)).bind fun _ ms2 => .ok (.ptr ms1.length) ms2) Q,
          fun H' h => ⟨m, Nat.lt_succ_self m, h⟩, fun x H' hy => ?_⟩
        obtain ⟨R3, l3, rd⟩ := js.2 x H' hy
        unfold stepOfD at o2
        refine tk x (L2.wipe σ vs) σ H' _ wipe_wipe ⟨ι2, wipeE env vs, ms2, d, R3, (ev2.wipe vs).mono l3, rd, ?_⟩
        cases q3 : T d (wipeE env vs) ms2 with
        | bad => simp only [q3] at o2; exact o2.elim
        | exc x ms3 => simp only [q3] at o2; exact o2.elim
        | ok env3 ms3 =>
          simp only [q3, bind_ok] at o2
          intro σ3 ι3 H3 R3' l3' ev3
          refine ⟨ι3, env3, ms3, R3', ev3, ?_⟩
          cases q4 : t env3 ms3 with
          | bad => simp only [q4] at o2; exact o2.elim
          | exc x ms4 => simp only [q4] at o2; exact o2.elim
          | ok b ms4 =>
            simp only [q4, bind_ok] at o2
            intro b' ι4 H4 R4 l4 eb
            obtain rfl : b' = b := eb
            have l24 := (l3.trans l3').trans l4
            cases b' with
            | false =>
              simp only [Bool.false_eq_true, if_false] at o2 ⊢
              exact ⟨ι4, ms4, R4, ev2.mono l24, Rps.mono l24 _ _ rs2, l24.at hat2, l2.trans l24, o2⟩
            | true =>
              simp only [if_true] at o2 ⊢
              refine ⟨ι4, env3, ms4, R4, ev3.mono l4, ?_⟩
              cases q5 : fk env3 ms4 with
              | bad => simp only [q5] at o2; exact o2.elim
              | exc x ms5 => simp only [q5] at o2; exact o2.elim
              | ok y ms5 =>
                simp only [q5, bind_ok] at o2
                intro yv ι5 H5 R5 l5 ry
                refine ⟨ι5, env3, ms5, R5, (ev3.mono l4).mono l5, ?_⟩
                cases q6 : fv env3 ms5 with
                | bad => simp only [q6] at o2; exact o2.elim
                | exc x ms6 => simp only [q6] at o2; exact o2.elim
                | ok z ms6 =>
                  simp only [q6, bind_ok, noExc] at o2
                  intro zv ι6 H6 R6 l6 rz
                  have l26 := (l24.trans l5).trans l6
                  have hat6 := l26.at hat2
                  cases q7 : keyOf y with
                  | none => simp only [q7] at o2; exact o2.elim
                  | some k =>
                    cases q8 : cellK ms6 (.ptr ms1.length) with
                    | none => simp only [q7, q8] at o2; exact o2.elim
                    | some nf =>
                      obtain ⟨n, fs⟩ := nf
                      simp only [q7, q8] at o2
                      obtain ⟨p, kvs, ep, hn, hp, kd⟩ := R6.cellK q8 (v := .ref D0) ⟨D0, rfl, hat6⟩
                      cases ep
                      obtain rfl : n = ms1.length := nd_ix R6.nd hn hat6
                      have ek := key_v q7 (Rp.mono l6 _ _ ry)
                      subst ek
                      by_cases hl : fs.length < LIM
                      · rw [if_pos hl] at o2
                        have lw := Le.write (o := .dK (putK kvs k zv)) R6 hn
                        have h2 := (kd.put (k := k) rz).mono lw
                        exact ⟨kvs, k, rfl, hp, by rw [kd.len, ← lim_eq]; exact hl, ι6, ms6.set ms1.length (.dK (putD fs k z)), R6.write hn ⟨_, upd_same, h2.ks, h2.rs⟩, (ev2.mono l26).mono lw, Rps.mono lw _ _ (Rps.mono l26 _ _ rs2), lw.at hat6, (l2.trans l26).trans lw, o2⟩
                      · rw [if_neg hl] at o2; exact o2.elim
section
variable {X : Cx} {E : EW}
theorem d_dcomp {kx vx tg iter : Expr} {ifs : List Expr} {scope : Scope} {own : List (Str × Nat)} {pos : Pos} {g : Env → MS → Res Src} {gg : TG} {T : TF} {t : Env → MS → Res Bool} {fk fv : Env → MS → Res D}
    (hc : X.calm = true) (hN : X.N.Nodup) (hi : DI X E tg iter g) (ok : BlkOk X.N X.env.scope scope own)
    (hg : ∀ (s : Shared) (H : Hp) (C : Addr) (cl : List (Str × Addr)) (fp : List Addr), PG (X.blk s H scope (compEnvC scope cl C X.env) fp) tg gg) (tk : TOk X.K E00 (own.map (·.2)) gg T)
    (ht : ∀ (s : Shared) (H : Hp) (C : Addr) (cl : List (Str × Addr)) (fp : List Addr), PTs (X.blk s H scope (compEnvC scope cl C X.env) fp) ifs (tT X.K E00 t))
    (hk : ∀ (s : Shared) (H : Hp) (C : Addr) (cl : List (Str × Addr)) (fp : List Addr), PE (X.blk s H scope (compEnvC scope cl C X.env) fp) kx (tD X.K E00 fk))
    (he : ∀ (s : Shared) (H : Hp) (C : Addr) (cl : List (Str × Addr)) (fp : List Addr), PE (X.blk s H scope (compEnvC scope cl C X.env) fp) vx (tD X.K E00 fv)) (hs : ∀ x, foldedSetIterable iter X.env x = pure x := by intro _; rfl) :
    DE X E (.DictComp kx vx [⟨tg, iter, ifs, 0⟩] scope pos) (dcompE g T t fk fv (own.map (·.2))) :=
  PE.conv (pe_dc hc hN hi ok hg ht hk he hs) fun _ _ _ h => dcomp_read tk h
end
end DL

set_option maxHeartbeats 1000000
namespace DL
open PySem PySem.Spec L2
open PyProof.Rows hiding St

/-! ### a, b, .. = a list -/
@[simp] def lstT (n : Nat) (Ts : List D → Env → MS → Res Env) : TF := fun d env ms => match rlOf ms d with
  | some ds => if ds.length = n then Ts ds env ms else .bad
  | none => .bad
section
variable {X : Cx} {E : EW} {es : List Expr} {Ts : List D → Env → MS → Res Env} {pos : Pos}
theorem g_lst {k n : Nat} (hc : X.calm = true) (h : DGs X E es Ts) (hn : (assignEach es X.env).length = n := by rfl) (hst : (assignEach es X.env).findIdx? (·.1) = none := by rfl) : DG X E (.Tuple es k pos) (lstT n Ts) :=
  PG.conv (pg_lst hc h hn hst) fun v σ H Q ⟨ι, env, ms, d, r, ev, rd, o⟩ => by
    unfold lstT at o
    cases q : rlOf ms d with
    | none => simp only [q] at o; exact o.elim
    | some ds =>
      simp only [q] at o
      obtain ⟨p, xs, rfl, rs, hs⟩ := r.rl q rd
      by_cases h : ds.length = n
      · rw [if_pos h] at o
        exact ⟨p, xs, rfl, hs, by rw [rs.length]; exact h, ι, env, ms, ds, r, ev, rs, o⟩
      · rw [if_neg h] at o; exact o.elim
end
end DL

set_option maxHeartbeats 2000000
namespace LW
open PySem PySem.Spec L2 DL
open PyProof.Rows hiding St

/-! ### a web: what its cells hold -/
abbrev Tie := Int × Int × Str × Int
abbrev Stand := List Int × List Tie × Int × Int
structure Web where
  mp : Int
  mt : Int
  ps : List Int
  ts : List Tie
  np : Int
  nt : Int
  mks : List Stand
def Web.stand (W : Web) : Stand := (W.ps, W.ts, W.np, W.nt)
def tieD (t : Tie) : D := .tup [.int t.1, .int t.2.1, .str t.2.2.1, .int t.2.2.2]
def endD (t : Tie) : D := .tup [.int t.2.1, .str t.2.2.1, .int t.2.2.2]
def standD (s : Stand) : D := .tup [.lst (s.1.map .int), .lst (s.2.1.map tieD), .int s.2.2.1, .int s.2.2.2]
def plK (ps : List Int) : List (Key × D) := ps.map fun p => (Sum.inl p, D.bl true)
def tiK (ts : List Tie) : List (Key × D) := ts.map fun t => (Sum.inl t.1, endD t)
def webF (W : Web) (a b c : Nat) : List (Str × D) := [("_most_places", .int W.mp), ("_most_ties", .int W.mt), ("_places", .ptr a), ("_ties", .ptr b), ("_next_place", .int W.np), ("_next_tie", .int W.nt), ("_marks", .ptr c)]
structure WebAt (ms : MS) (w a b c : Nat) (W : Web) : Prop where
  o : ms[w]? = some (.obj "Web" (webF W a b c))
  p : ms[a]? = some (.dK (plK W.ps))
  t : ms[b]? = some (.dK (tiK W.ts))
  m : ms[c]? = some (.lst (W.mks.map standD))
  wa : w ≠ a
  wb : w ≠ b
  wc : w ≠ c
  ab : a ≠ b
  ac : a ≠ c
  bc : b ≠ c
/-- places and ties as they may stand -/
structure StOk (s : Stand) : Prop where
  pr : s.1.Pairwise (· < ·)
  pl : ∀ p ∈ s.1, 0 ≤ p ∧ p < s.2.2.1
  tr : (s.2.1.map (·.1)).Pairwise (· < ·)
  tl : ∀ t ∈ s.2.1, 0 ≤ t.1 ∧ t.1 < s.2.2.2
  te : ∀ t ∈ s.2.1, t.2.1 ∈ s.1 ∧ t.2.2.2 ∈ s.1
  n0 : 0 ≤ s.2.2.1
  t0 : 0 ≤ s.2.2.2
  few : s.1.length ≤ 1000 ∧ s.2.1.length ≤ 1000
structure WOk (W : Web) : Prop where
  st : StOk W.stand
  mok : ∀ s ∈ W.mks, StOk s
  many : W.mks.length ≤ 10000
section
variable {W : Web} {a b c : Nat}
theorem lk_no {x : Str} (h : ((["_most_places", "_most_ties", "_places", "_ties", "_next_place", "_next_tie", "_marks"] : List Str).all fun f => !(x == f)) = true) : (webF W a b c).lookup x = none := by
  simp only [List.all_cons, List.all_nil, Bool.and_true, Bool.and_eq_true, Bool.not_eq_true'] at h
  obtain ⟨h1, h2, h3, h4, h5, h6, h7⟩ := h
  simp [webF, List.lookup, h1, h2, h3, h4, h5, h6, h7]
theorem str_ne {x y : Str} (h : (x == y) = false) : x ≠ y := fun e => by rw [e, beq_self_eq_true] at h; cases h
@[simp] theorem lk_mp : (webF W a b c).lookup ("_most_places" : Str) = some (.int W.mp) := by simp [webF, List.lookup]
@[simp] theorem lk_mt : (webF W a b c).lookup ("_most_ties" : Str) = some (.int W.mt) := by
  have h1 : (("_most_ties" : Str) == "_most_places") = false := by decide +kernel
  simp [webF, List.lookup, h1]
@[simp] theorem lk_ps : (webF W a b c).lookup ("_places" : Str) = some (.ptr a) := by
  have h1 : (("_places" : Str) == "_most_places") = false := by decide +kernel
  have h2 : (("_places" : Str) == "_most_ties") = false := by decide +kernel
  simp [webF, List.lookup, h1, h2]
@[simp] theorem lk_ts : (webF W a b c).lookup ("_ties" : Str) = some (.ptr b) := by
  have h1 : (("_ties" : Str) == "_most_places") = false := by decide +kernel
  have h2 : (("_ties" : Str) == "_most_ties") = false := by decide +kernel
  have h3 : (("_ties" : Str) == "_places") = false := by decide +kernel
  simp [webF, List.lookup, h1, h2, h3]
@[simp] theorem lk_np : (webF W a b c).lookup ("_next_place" : Str) = some (.int W.np) := by
  have h1 : (("_next_place" : Str) == "_most_places") = false := by decide +kernel
  have h2 : (("_next_place" : Str) == "_most_ties") = false := by decide +kernel
  have h3 : (("_next_place" : Str) == "_places") = false := by decide +kernel
  have h4 : (("_next_place" : Str) == "_ties") = false := by decide +kernel
  simp [webF, List.lookup, h1, h2, h3, h4]
@[simp] theorem lk_nt : (webF W a b c).lookup ("_next_tie" : Str) = some (.int W.nt) := by
  have h1 : (("_next_tie" : Str) == "_most_places") = false := by decide +kernel
  have h2 : (("_next_tie" : Str) == "_most_ties") = false := by decide +kernel
  have h3 : (("_next_tie" : Str) == "_places") = false := by decide +kernel
  have h4 : (("_next_tie" : Str) == "_ties") = false := by decide +kernel
  have h5 : (("_next_tie" : Str) == "_next_place") = false := by decide +kernel
  simp [webF, List.lookup, h1, h2, h3, h4, h5]
@[simp] theorem lk_mk : (webF W a b c).lookup ("_marks" : Str) = some (.ptr c) := by
  have h1 : (("_marks" : Str) == "_most_places") = false := by decide +kernel
  have h2 : (("_marks" : Str) == "_most_ties") = false := by decide +kernel
  have h3 : (("_marks" : Str) == "_places") = false := by decide +kernel
  have h4 : (("_marks" : Str) == "_ties") = false := by decide +kernel
  have h5 : (("_marks" : Str) == "_next_place") = false := by decide +kernel
  have h6 : (("_marks" : Str) == "_next_tie") = false := by decide +kernel
  simp [webF, List.lookup, h1, h2, h3, h4, h5, h6]
@[simp] theorem lm1 : (webF W a b c).lookup ("places" : Str) = none := lk_no (by decide +kernel)
@[simp] theorem lm2 : (webF W a b c).lookup ("ties" : Str) = none := lk_no (by decide +kernel)
@[simp] theorem lm3 : (webF W a b c).lookup ("stand" : Str) = none := lk_no (by decide +kernel)
@[simp] theorem lm4 : (webF W a b c).lookup ("put_back" : Str) = none := lk_no (by decide +kernel)
@[simp] theorem lm5 : (webF W a b c).lookup ("_need_place" : Str) = none := lk_no (by decide +kernel)
@[simp] theorem lm6 : (webF W a b c).lookup ("_need_tie" : Str) = none := lk_no (by decide +kernel)
@[simp] theorem lm7 : (webF W a b c).lookup ("ties_at" : Str) = none := lk_no (by decide +kernel)
@[simp] theorem lm8 : (webF W a b c).lookup ("place" : Str) = none := lk_no (by decide +kernel)
@[simp] theorem lm9 : (webF W a b c).lookup ("tie" : Str) = none := lk_no (by decide +kernel)
@[simp] theorem lm10 : (webF W a b c).lookup ("cut" : Str) = none := lk_no (by decide +kernel)
@[simp] theorem lm11 : (webF W a b c).lookup ("drop" : Str) = none := lk_no (by decide +kernel)
@[simp] theorem lm12 : (webF W a b c).lookup ("mark" : Str) = none := lk_no (by decide +kernel)
@[simp] theorem lm13 : (webF W a b c).lookup ("undo" : Str) = none := lk_no (by decide +kernel)
@[simp] theorem lm14 : (webF W a b c).lookup ("ends_of" : Str) = none := lk_no (by decide +kernel)
@[simp] theorem lm15 : (webF W a b c).lookup ("__len__" : Str) = none := lk_no (by decide +kernel)
@[simp] theorem wf_len : (webF W a b c).length = 7 := rfl
@[simp] theorem pf_np {v : Int} : putFD "_next_place" (.int v) (webF W a b c) = webF { W with np := v } a b c := by
  have h1 := str_ne (x := "_most_places") (y := "_next_place") (by decide +kernel)
  have h2 := str_ne (x := "_most_ties") (y := "_next_place") (by decide +kernel)
  have h3 := str_ne (x := "_places") (y := "_next_place") (by decide +kernel)
  have h4 := str_ne (x := "_ties") (y := "_next_place") (by decide +kernel)
  simp [webF, putFD, h1, h2, h3, h4]
@[simp] theorem pf_nt {v : Int} : putFD "_next_tie" (.int v) (webF W a b c) = webF { W with nt := v } a b c := by
  have h1 := str_ne (x := "_most_places") (y := "_next_tie") (by decide +kernel)
  have h2 := str_ne (x := "_most_ties") (y := "_next_tie") (by decide +kernel)
  have h3 := str_ne (x := "_places") (y := "_next_tie") (by decide +kernel)
  have h4 := str_ne (x := "_ties") (y := "_next_tie") (by decide +kernel)
  have h5 := str_ne (x := "_next_place") (y := "_next_tie") (by decide +kernel)
  simp [webF, putFD, h1, h2, h3, h4, h5]
@[simp] theorem pf_ps {n : Nat} : putFD "_places" (.ptr n) (webF W a b c) = webF W n b c := by
  have h1 := str_ne (x := "_most_places") (y := "_places") (by decide +kernel)
  have h2 := str_ne (x := "_most_ties") (y := "_places") (by decide +kernel)
  simp [webF, putFD, h1, h2]
@[simp] theorem pf_ts {n : Nat} : putFD "_ties" (.ptr n) (webF W a b c) = webF W a n c := by
  have h1 := str_ne (x := "_most_places") (y := "_ties") (by decide +kernel)
  have h2 := str_ne (x := "_most_ties") (y := "_ties") (by decide +kernel)
  have h3 := str_ne (x := "_places") (y := "_ties") (by decide +kernel)
  simp [webF, putFD, h1, h2, h3]
end
/-! ### its dicts -/
theorem rise_same {l : List Int} (h : l.Pairwise (· < ·)) : rise l = l := by
  unfold rise
  refine List.mergeSort_of_pairwise ?_
  exact h.imp fun {a b} hab => by simp; omega
theorem keys_pl (ps : List Int) : keysI (plK ps) = some ps := by
  induction ps with
  | nil => rfl
  | cons p ps ih =>
    unfold plK at ih ⊢
    rw [List.map_cons]
    unfold keysI
    rw [ih]
    first | rfl | simp
theorem keys_ti (ts : List Tie) : keysI (tiK ts) = some (ts.map (·.1)) := by
  induction ts with
  | nil => rfl
  | cons p ps ih =>
    unfold tiK at ih ⊢
    rw [List.map_cons]
    unfold keysI
    rw [ih]
    first | rfl | simp
theorem val_pl (ps : List Int) (p : Int) : valD (plK ps) (.inl p) = if p ∈ ps then some (.bl true) else none := by
  induction ps with
  | nil => rfl
  | cons q ps ih =>
    unfold valD plK at ih ⊢
    rw [List.map_cons, List.find?_cons]
    by_cases h : q = p
    · subst h; simp
    · have h' : (decide ((Sum.inl q : Key) = Sum.inl p)) = false := by simp [h]
      simp only [h']
      rw [ih]
      simp [Ne.symm h]
theorem drop_pl (ps : List Int) (p : Int) : dropD (plK ps) (.inl p) = plK (ps.filter fun q => decide (q ≠ p)) := by
  unfold dropD plK
  rw [List.filter_map]
  congr 1
  refine List.filter_congr fun q _ => ?_
  simp
theorem put_pl {ps : List Int} {p : Int} (h : p ∉ ps) : putD (plK ps) (.inl p) (.bl true) = plK (ps ++ [p]) := by
  unfold putD
  rw [val_pl, if_neg h]
  simp [plK]
theorem val_ti {ts : List Tie} (hn : (ts.map (·.1)).Pairwise (· < ·)) {t : Tie} (h : t ∈ ts) : valD (tiK ts) (.inl t.1) = some (endD t) := by
  induction ts with
  | nil => cases h
  | cons s ts ih =>
    rw [List.map_cons, List.pairwise_cons] at hn
    unfold valD tiK at ih ⊢
    rw [List.map_cons, List.find?_cons]
    rcases List.mem_cons.mp h with rfl | h
    · simp
    · have hne : s.1 ≠ t.1 := by have := hn.1 t.1 (List.mem_map_of_mem h); omega
      have h' : (decide ((Sum.inl s.1 : Key) = Sum.inl t.1)) = false := by simp [hne]
      simp only [h']
      exact ih hn.2 h
theorem val_no {ts : List Tie} {k : Int} (h : k ∉ ts.map (·.1)) : valD (tiK ts) (.inl k) = none := by
  induction ts with
  | nil => rfl
  | cons s ts ih =>
    rw [List.map_cons, List.mem_cons, not_or] at h
    unfold valD tiK at ih ⊢
    rw [List.map_cons, List.find?_cons]
    have h' : (decide ((Sum.inl s.1 : Key) = Sum.inl k)) = false := by simp [Ne.symm h.1]
    simp only [h']
    exact ih h.2
theorem drop_ti (ts : List Tie) (k : Int) : dropD (tiK ts) (.inl k) = tiK (ts.filter fun t => decide (t.1 ≠ k)) := by
  unfold dropD tiK
  rw [List.filter_map]
  congr 1
  refine List.filter_congr fun q _ => ?_
  simp
theorem put_ti {ts : List Tie} {t : Tie} (h : t.1 ∉ ts.map (·.1)) : putD (tiK ts) (.inl t.1) (endD t) = tiK (ts ++ [t]) := by
  unfold putD
  rw [val_no h]
  simp [tiK]
/-! ### comprehensions over things -/
theorem comp_zip {α : Type} {nx : Nat → MS → WOut} {step : D → MS → Res (Option D)} (l : List α) (it out : α → D) {ms : MS} (hnx : ∀ i, nx i ms = nxOf (some (l.map it)) i) (hz : l.length ≤ LIM) (hs : ∀ x, x ∈ l → step (it x) ms = .ok (some (out x)) ms) {n : Nat} (hn : l.length < n) :
    compLoop nx step n 0 [] ms = .ok (l.map out) ms := by
  obtain ⟨a, ms1, e, ha, hm⟩ := comp_inv (nx := nx) (step := step) (l.map it) (fun i acc m => acc = (l.take i).map out ∧ m = ms) (fun i acc m _ hI => by rw [hI.2]; exact hnx i) (fun i acc m hi hI => by rw [hI.1]; simp; omega) (by simpa using hz)
    (fun i x acc m hx hI => by
      rw [List.getElem?_map] at hx
      cases q : l[i]? with
      | none => rw [q] at hx; cases hx
      | some y =>
        rw [q] at hx
        cases hx
        rw [hI.2, hs y (List.mem_of_getElem? q)]
        refine OK.pure ⟨?_, rfl⟩
        rw [hI.1, List.take_add_one, q, List.map_append]
        rfl) n 0 [] ms (by simp; omega) (by simp) ⟨by simp, rfl⟩
  rw [e, hm, ha, List.length_map, List.take_length]
theorem comp_zipf {α : Type} {nx : Nat → MS → WOut} {step : D → MS → Res (Option D)} (l : List α) (it : α → D) (out : α → Option D) {ms : MS} (hnx : ∀ i, nx i ms = nxOf (some (l.map it)) i) (hz : l.length ≤ LIM) (hs : ∀ x, x ∈ l → step (it x) ms = .ok (out x) ms) {n : Nat} (hn : l.length < n) :
    compLoop nx step n 0 [] ms = .ok (l.filterMap out) ms := by
  obtain ⟨a, ms1, e, ha, hm⟩ := comp_inv (nx := nx) (step := step) (l.map it) (fun i acc m => acc = (l.take i).filterMap out ∧ m = ms) (fun i acc m _ hI => by rw [hI.2]; exact hnx i) (fun i acc m hi hI => by rw [hI.1]; exact Nat.le_trans (List.length_filterMap_le ..) (by simp at hi ⊢; omega)) (by simpa using hz)
    (fun i x acc m hx hI => by
      rw [List.getElem?_map] at hx
      cases q : l[i]? with
      | none => rw [q] at hx; cases hx
      | some y =>
        rw [q] at hx
        cases hx
        rw [hI.2, hs y (List.mem_of_getElem? q)]
        cases z : out y with
        | none =>
          refine OK.pure ⟨?_, rfl⟩
          rw [hI.1, List.take_add_one, q, List.filterMap_append]
          simp [z]
        | some d =>
          refine OK.pure ⟨?_, rfl⟩
          rw [hI.1, List.take_add_one, q, List.filterMap_append]
          simp [z]) n 0 [] ms (by simp; omega) (by simp) ⟨by simp, rfl⟩
  rw [e, hm, ha, List.length_map, List.take_length]
/-- those that pass, as they are -/
theorem filt_map {α : Type} (l : List α) (p : α → Bool) (it : α → D) : (l.filterMap fun x => if p x = true then some (it x) else none) = (l.filter p).map it := by
  induction l with
  | nil => rfl
  | cons x l ih =>
    rw [List.filterMap_cons, List.filter_cons]
    cases h : p x <;> simp [ih]
/-! ### a dict made anew -/
theorem put_len (fs : List (Key × D)) (k : Key) (d : D) : (putD fs k d).length ≤ fs.length + 1 := by
  unfold putD
  split <;> simp
theorem dc_list {nx : Nat → MS → WOut} {step : D → MS → Res (Option (D × D))} {c : Nat} {ms : MS} (items : List D) (f : D → D × D) (kf : D → Key) (hnx : ∀ i m, nx i m = nxOf (some items) i) (hc : c < ms.length)
    (hs : ∀ d, d ∈ items → ∀ fs, step d (ms.set c (.dK fs)) = .ok (some (f d)) (ms.set c (.dK fs))) (hk : ∀ d, d ∈ items → keyOf (f d).1 = some (kf d)) :
    ∀ (n i : Nat) (fs : List (Key × D)), items.length - i < n → i ≤ items.length → fs.length + (items.length - i) < LIM →
      dcLoop nx step c n i (ms.set c (.dK fs)) = .ok () (ms.set c (.dK ((items.drop i).foldl (fun fs d => putD fs (kf d) (f d).2) fs)))
  | 0, i, fs, h, _, _ => absurd h (Nat.not_lt_zero _)
  | n + 1, i, fs, h, hi, hl => by
    unfold dcLoop
    rw [hnx]
    by_cases he : i < items.length
    · have e1 : nxOf (some items) i = .item items[i] := by
        unfold nxOf
        simp [he]
      rw [e1]
      simp only []
      rw [hs _ (List.getElem_mem he)]
      have e2 : cellK (ms.set c (.dK fs)) (.ptr c) = some (c, fs) := by
        unfold cellK
        simp [List.getElem?_set_self hc]
      simp only [bind_ok]
      rw [hk _ (List.getElem_mem he), e2]
      simp only []
      rw [if_pos (by omega), List.set_set, dc_list items f kf hnx hc hs hk n (i + 1) _ (by omega) (by omega) (by have := put_len fs (kf items[i]) (f items[i]).2; omega)]
      rw [List.drop_eq_getElem_cons he, List.foldl_cons]
    · have e1 : nxOf (some items) i = .stop := by
        unfold nxOf
        simp [he]
      rw [e1]
      simp only []
      rw [List.drop_eq_nil_of_le (by omega)]
      rfl
theorem fold_put {α : Type} (l : List α) (k : α → Int) (z : α → D) : ∀ fs : List (Key × D), (∀ x ∈ l, valD fs (.inl (k x)) = none) → (l.map k).Pairwise (· < ·) → l.foldl (fun fs x => putD fs (.inl (k x)) (z x)) fs = fs ++ l.map fun x => (Sum.inl (k x), z x) := by
  induction l with
  | nil => intro fs _ _; simp
  | cons x l ih =>
    intro fs h hp
    rw [List.map_cons, List.pairwise_cons] at hp
    rw [List.foldl_cons]
    have e : putD fs (.inl (k x)) (z x) = fs ++ [(Sum.inl (k x), z x)] := by
      unfold putD
      rw [h x (List.mem_cons_self ..)]
      rfl
    rw [e, ih _ (fun y hy => ?_) hp.2]
    · simp
    · have h1 := h y (List.mem_cons_of_mem _ hy)
      have h2 : k x ≠ k y := by have := hp.1 (k y) (List.mem_map_of_mem hy); omega
      unfold valD at h1 ⊢
      rw [List.find?_append]
      cases q : fs.find? (fun kv => decide (kv.1 = Sum.inl (k y))) with
      | some v => rw [q] at h1; cases h1
      | none => simp [h2]
end LW

set_option maxHeartbeats 2000000
namespace LW
open PySem PySem.Spec L2 DL
open PyProof.Rows hiding St
def c_LONGEST_NAME : D := .int 8
def c_SMALL_LETTERS : D := .str "abcdefghijklmnopqrstuvwxyz"
def dv_Web___init__ : List D := [.int 60, .int 200]
noncomputable def B__law_bag : SF := (seqS (setS 1 (cE (.int 23)))
  (seqS (forS (lstSrc (sliceE mkLst (varE 0) nonO (someO (cE (.int 63))))) (nameT 2) (setS 1 (binE (binE (binE (binE (varE 1) (cE (.int 48271)) mulD) (binE (varE 2) (cE (.int 2147483629)) modD) addD) (cE (.int 1)) addD) (cE (.int 2147483647)) modD)))
  (retS (appE (consA (compE endL (lstSrc (sliceE mkLst (varE 0) nonO (someO (cE (.int 63))))) (nameT 2) yesT (binE (appE (consA (varE 2) nilA) absP) (binE (binE (cE (.int 10)) (cE (.int 60)) powD) (cE (.int 10)) powD) modD) [2]) (consA (cE (.int 0)) (consA (cE (.int 0)) (consA (varE 1) (consA (cE (.int 0)) nilA))))) mkMut))))
noncomputable def sem__law_bag : List D → MS → Res D := shut (runF 3 B__law_bag)
theorem sem__law_bag_eq : sem__law_bag = runF 3 B__law_bag := shut_eq _
noncomputable def B__law_stirred : SF := (seqS (setS 2 (cE (.int 0)))
  (seqS (forS (rngSrc1 (binE (cE (.int 1)) (binE (unE (varE 1) bitsP) (cE (.int 27)) divD) addD)) (nameT 3) (seqS (asgS (binE (binE (varE 0) (cE (.int 4)) idxD) (cE (.int 1)) addD) (subT (varE 0) (cE (.int 4))))
  (seqS (asgS (binE (binE (binE (binE (binE (binE (varE 0) (cE (.int 3)) idxD) (cE (.int 3)) powD) (binE (cE (.int 69621)) (binE (varE 0) (cE (.int 3)) idxD) mulD) addD) (binE (cE (.int 1031)) (binE (varE 0) (cE (.int 4)) idxD) mulD) addD) (cE (.int 1)) addD) (cE (.int 2147483647)) modD) (subT (varE 0) (cE (.int 3))))
  (setS 2 (binE (binE (varE 2) (cE (.int 134217728)) mulD) (binE (binE (varE 0) (cE (.int 3)) idxD) (cE (.int 16)) divD) addD)))))
  (retS (binE (varE 2) (varE 1) modD))))
noncomputable def sem__law_stirred : List D → MS → Res D := shut (runF 4 B__law_stirred)
theorem sem__law_stirred_eq : sem__law_stirred = runF 4 B__law_stirred := shut_eq _
noncomputable def B__law_draw : SF := (seqS (ifS (andT (valT (binE (binE (varE 0) (cE (.int 2)) idxD) (cE (.int 0)) eqD)) (valT (binE (binE (varE 0) (cE (.int 1)) idxD) (appE (consA (binE (varE 0) (cE (.int 0)) idxD) nilA) lenP) ltD))) (seqS (asgS (binE (binE (varE 0) (cE (.int 0)) idxD) (binE (varE 0) (cE (.int 1)) idxD) idxD) (subT (varE 0) (cE (.int 2))))
  (asgS (binE (binE (varE 0) (cE (.int 1)) idxD) (cE (.int 1)) addD) (subT (varE 0) (cE (.int 1))))) (ifS (valT (binE (binE (varE 0) (cE (.int 2)) idxD) (cE (.int 0)) eqD)) (retS (appE (consA (varE 0) (consA (varE 1) nilA)) (callP 2 sem__law_stirred))) skipS))
  (seqS (setS 2 (binE (binE (varE 0) (cE (.int 2)) idxD) (varE 1) modD))
  (seqS (asgS (binE (binE (varE 0) (cE (.int 2)) idxD) (varE 1) divD) (subT (varE 0) (cE (.int 2))))
  (retS (varE 2)))))
noncomputable def sem__law_draw : List D → MS → Res D := shut (runF 3 B__law_draw)
theorem sem__law_draw_eq : sem__law_draw = runF 3 B__law_draw := shut_eq _
noncomputable def B__law_names : SF := (seqS (setS 1 (appE (consA (varE 0) (consA (cE (.int 4)) nilA)) (callP 2 sem__law_draw)))
  (seqS (ifS (valT (binE (varE 1) (cE (.int 3)) ltD)) (retS (binE (appE (consA (appE (consA (cE (.str "a")) (consA (cE (.str "b")) (consA (cE (.str "a")) (consA (cE (.str "b")) nilA)))) mkLst) (consA (appE (consA (cE (.str "from")) (consA (cE (.str "any")) (consA (cE (.str "trail")) (consA (cE (.str "to")) nilA)))) mkLst) (consA (appE (consA (cE (.str "ab")) (consA (cE (.str "abc")) (consA (cE (.str "a")) (consA (cE (.str "abcdefgh")) nilA)))) mkLst) nilA))) mkLst) (varE 1) idxD)) skipS)
  (seqS (setS 2 (appE nilA mkMut))
  (seqS (forS (rngSrc1 (cE (.int 4))) (nameT 3) (seqS (setS 4 (compE endL (rngSrc1 (binE (cE (.int 1)) (appE (consA (varE 0) (consA (cE (.int 8)) nilA)) (callP 2 sem__law_draw)) addD)) (nameT 5) yesT (binE (cE (.str "abcdefghijklmnopqrstuvwxyz")) (appE (consA (varE 0) (consA (cE (.int 26)) nilA)) (callP 2 sem__law_draw)) idxD) [5]))
  (dropS (appM (varE 2) (joinE (cE (.str "")) (varE 4))))))
  (retS (varE 2))))))
noncomputable def sem__law_names : List D → MS → Res D := shut (runT 6 B__law_names)
theorem sem__law_names_eq : sem__law_names = runT 6 B__law_names := shut_eq _
noncomputable def B_Web___init__ : SF := (seqS (fldS "Web" "_most_places" (varE 0) (varE 1))
  (seqS (fldS "Web" "_most_ties" (varE 0) (varE 2))
  (seqS (fldS "Web" "_places" (varE 0) dnewE)
  (seqS (fldS "Web" "_ties" (varE 0) dnewE)
  (seqS (fldS "Web" "_next_place" (varE 0) (cE (.int 0)))
  (seqS (fldS "Web" "_next_tie" (varE 0) (cE (.int 0)))
  (fldS "Web" "_marks" (varE 0) (appE nilA mkMut))))))))
noncomputable def sem_Web___init__ : List D → MS → Res D := shut (runF 3 B_Web___init__)
theorem sem_Web___init___eq : sem_Web___init__ = runF 3 B_Web___init__ := shut_eq _
noncomputable def B_Web_place : SF := (seqS (ifS (valT (binE (appE (consA (fldE "Web" "_places" (varE 0)) nilA) lenDP) (fldE "Web" "_most_places" (varE 0)) geD)) badS skipS)
  (seqS (setS 1 (fldE "Web" "_next_place" (varE 0)))
  (seqS (dputS (cE (.bl true)) (fldE "Web" "_places" (varE 0)) (varE 1))
  (seqS (fldS "Web" "_next_place" (varE 0) (binE (varE 1) (cE (.int 1)) addD))
  (retS (varE 1))))))
noncomputable def sem_Web_place : List D → MS → Res D := shut (runF 2 B_Web_place)
theorem sem_Web_place_eq : sem_Web_place = runF 2 B_Web_place := shut_eq _
noncomputable def B_Web__need_place : SF := (ifS (valT (dinE true (varE 1) (fldE "Web" "_places" (varE 0)))) badS skipS)
noncomputable def sem_Web__need_place : List D → MS → Res D := shut (runF 2 B_Web__need_place)
theorem sem_Web__need_place_eq : sem_Web__need_place = runF 2 B_Web__need_place := shut_eq _
noncomputable def B_Web_ties : SF := (retS (compE endL (lstSrc (appE (consA (fldE "Web" "_ties" (varE 0)) nilA) sortQ)) (nameT 1) yesT (appE (consA (varE 1) (starA (dgetE (fldE "Web" "_ties" (varE 0)) (varE 1)) nilA)) mkTup) [1]))
noncomputable def sem_Web_ties : List D → MS → Res D := shut (runF 2 B_Web_ties)
theorem sem_Web_ties_eq : sem_Web_ties = runF 2 B_Web_ties := shut_eq _
noncomputable def B_Web_ties_at : SF := (seqS (dropS (methE "Web" "_need_place" (varE 0) (consA (varE 1) nilA) (callP 2 sem_Web__need_place)))
  (retS (compE endL (lstSrc (methE "Web" "ties" (varE 0) nilA (callP 1 sem_Web_ties))) (tupT 4 (consT (nameT 2) (consT (nameT 3) (consT (nameT 4) (consT (nameT 5) nilT))))) (valT (binE (varE 1) (appE (consA (varE 3) (consA (varE 5) nilA)) mkTup) (inD false))) (varE 2) [2, 3, 4, 5])))
noncomputable def sem_Web_ties_at : List D → MS → Res D := shut (runF 6 B_Web_ties_at)
theorem sem_Web_ties_at_eq : sem_Web_ties_at = runF 6 B_Web_ties_at := shut_eq _
noncomputable def B_Web_drop : SF := (seqS (ifS (truT (methE "Web" "ties_at" (varE 0) (consA (varE 1) nilA) (callP 2 sem_Web_ties_at))) badS skipS)
  (ddelS (fldE "Web" "_places" (varE 0)) (varE 1)))
noncomputable def sem_Web_drop : List D → MS → Res D := shut (runF 2 B_Web_drop)
theorem sem_Web_drop_eq : sem_Web_drop = runF 2 B_Web_drop := shut_eq _
noncomputable def B_Web__need_tie : SF := (ifS (valT (dinE true (varE 1) (fldE "Web" "_ties" (varE 0)))) badS skipS)
noncomputable def sem_Web__need_tie : List D → MS → Res D := shut (runF 2 B_Web__need_tie)
theorem sem_Web__need_tie_eq : sem_Web__need_tie = runF 2 B_Web__need_tie := shut_eq _
noncomputable def B_Web_cut : SF := (seqS (dropS (methE "Web" "_need_tie" (varE 0) (consA (varE 1) nilA) (callP 2 sem_Web__need_tie)))
  (ddelS (fldE "Web" "_ties" (varE 0)) (varE 1)))
noncomputable def sem_Web_cut : List D → MS → Res D := shut (runF 2 B_Web_cut)
theorem sem_Web_cut_eq : sem_Web_cut = runF 2 B_Web_cut := shut_eq _
noncomputable def B_is_name : SF := (seqS (ifS (notT (valT (chE (cE (.int 1)) (appE (consA (varE 0) nilA) lenP) (cE c_LONGEST_NAME) leD leD))) (retS (cE (.bl false))) skipS)
  (retS (appE (consA (compE endL (strSrc (varE 0)) (nameT 1) yesT (binE (varE 1) (cE c_SMALL_LETTERS) (inD false)) [1]) nilA) allP)))
noncomputable def sem_is_name : List D → MS → Res D := shut (runF 2 B_is_name)
theorem sem_is_name_eq : sem_is_name = runF 2 B_is_name := shut_eq _
noncomputable def B_Web_tie : SF := (seqS (dropS (methE "Web" "_need_place" (varE 0) (consA (varE 1) nilA) (callP 2 sem_Web__need_place)))
  (seqS (dropS (methE "Web" "_need_place" (varE 0) (consA (varE 3) nilA) (callP 2 sem_Web__need_place)))
  (seqS (ifS (notT (truT (appE (consA (varE 2) nilA) (callP 1 sem_is_name)))) badS skipS)
  (seqS (ifS (valT (binE (appE (consA (fldE "Web" "_ties" (varE 0)) nilA) lenDP) (fldE "Web" "_most_ties" (varE 0)) geD)) badS skipS)
  (seqS (setS 4 (fldE "Web" "_next_tie" (varE 0)))
  (seqS (dputS (appE (consA (varE 1) (consA (varE 2) (consA (varE 3) nilA))) mkTup) (fldE "Web" "_ties" (varE 0)) (varE 4))
  (seqS (fldS "Web" "_next_tie" (varE 0) (binE (varE 4) (cE (.int 1)) addD))
  (retS (varE 4)))))))))
noncomputable def sem_Web_tie : List D → MS → Res D := shut (runF 5 B_Web_tie)
theorem sem_Web_tie_eq : sem_Web_tie = runF 5 B_Web_tie := shut_eq _
noncomputable def B__law_web : SF := (seqS (setS 4 (appE (consA (varE 0) (consA (cE (.int 3)) nilA)) (callP 2 sem__law_draw)))
  (seqS (setS 5 (binE (appE (consA (varE 0) (consA (cE (.int 3)) nilA)) (callP 2 sem__law_draw)) (cE (.int 2)) eqD))
  (seqS (setS 6 (iteE (truT (varE 5)) (appE (consA (varE 0) (consA (binE (appE (consA (varE 2) (consA (binE (cE (.int 60)) (varE 2) subD) nilA)) min2P) (cE (.int 1)) addD) nilA)) (callP 2 sem__law_draw)) (cE (.int 0))))
  (seqS (setS 7 (iteE (truT (varE 5)) (appE (consA (varE 0) (consA (binE (appE (consA (varE 3) (consA (binE (cE (.int 200)) (varE 3) subD) nilA)) min2P) (cE (.int 1)) addD) nilA)) (callP 2 sem__law_draw)) (cE (.int 0))))
  (seqS (setS 8 (iteE (andT (truT (varE 5)) (valT (binE (appE (consA (varE 0) (consA (cE (.int 2)) nilA)) (callP 2 sem__law_draw)) (cE (.int 1)) eqD))) (makeKE "Web" 3 2 [0, 1, 2] (consA (binE (binE (varE 2) (varE 6) addD) (cE (.int 1)) addD) (consA (binE (binE (varE 3) (varE 7) addD) (cE (.int 4)) addD) nilA)) sem_Web___init__) (makeE "Web" 3 (constA dv_Web___init__) sem_Web___init__)))
  (seqS (setS 9 (compE endM (rngSrc1 (binE (varE 2) (varE 6) addD)) (nameT 10) yesT (methE "Web" "place" (varE 8) nilA (callP 1 sem_Web_place)) [10]))
  (seqS (forS (rngSrc1 (varE 6)) (nameT 10) (dropS (methE "Web" "drop" (varE 8) (consA (popAtM (varE 9) (appE (consA (varE 0) (consA (appE (consA (varE 9) nilA) lenP) nilA)) (callP 2 sem__law_draw))) nilA) (callP 2 sem_Web_drop))))
  (seqS (setS 11 (appE nilA mkMut))
  (seqS (forS (rngSrc1 (binE (varE 3) (varE 7) addD)) (nameT 10) (seqS (setS 12 (appE (consA (varE 0) (consA (varE 2) nilA)) (callP 2 sem__law_draw)))
  (seqS (setS 13 (binE (appE (consA (appE (consA (varE 0) (consA (varE 2) nilA)) (callP 2 sem__law_draw)) (consA (binE (binE (varE 12) (cE (.int 1)) addD) (varE 2) modD) (consA (appE (consA (binE (varE 12) (appE (consA (varE 0) (consA (cE (.int 3)) nilA)) (callP 2 sem__law_draw)) addD) (consA (binE (varE 2) (cE (.int 1)) subD) nilA)) min2P) nilA))) mkLst) (varE 4) idxD))
  (seqS (setS 14 (binE (varE 1) (appE (consA (varE 0) (consA (cE (.int 4)) nilA)) (callP 2 sem__law_draw)) idxD))
  (dropS (appM (varE 11) (appE (consA (methE "Web" "tie" (varE 8) (consA (binE (varE 9) (varE 12) idxD) (consA (varE 14) (consA (binE (varE 9) (varE 13) idxD) nilA))) (callP 4 sem_Web_tie)) (consA (binE (varE 9) (varE 12) idxD) (consA (varE 14) (consA (binE (varE 9) (varE 13) idxD) nilA)))) mkTup)))))))
  (seqS (forS (rngSrc1 (varE 7)) (nameT 10) (dropS (methE "Web" "cut" (varE 8) (consA (binE (popAtM (varE 11) (appE (consA (varE 0) (consA (appE (consA (varE 11) nilA) lenP) nilA)) (callP 2 sem__law_draw))) (cE (.int 0)) idxD) nilA) (callP 2 sem_Web_cut))))
  (retS (appE (consA (varE 8) (consA (varE 9) (consA (varE 11) nilA))) mkTup))))))))))))
noncomputable def sem__law_web : List D → MS → Res D := shut (runF 15 B__law_web)
theorem sem__law_web_eq : sem__law_web = runF 15 B__law_web := shut_eq _
noncomputable def B_Web_places : SF := (retS (appE (consA (fldE "Web" "_places" (varE 0)) nilA) sortQ))
noncomputable def sem_Web_places : List D → MS → Res D := shut (runF 1 B_Web_places)
theorem sem_Web_places_eq : sem_Web_places = runF 1 B_Web_places := shut_eq _
noncomputable def B_Web_stand : SF := (retS (appE (consA (methE "Web" "places" (varE 0) nilA (callP 1 sem_Web_places)) (consA (methE "Web" "ties" (varE 0) nilA (callP 1 sem_Web_ties)) (consA (fldE "Web" "_next_place" (varE 0)) (consA (fldE "Web" "_next_tie" (varE 0)) nilA)))) mkTup))
noncomputable def sem_Web_stand : List D → MS → Res D := shut (runF 1 B_Web_stand)
theorem sem_Web_stand_eq : sem_Web_stand = runF 1 B_Web_stand := shut_eq _
noncomputable def B_Web_mark : SF := (seqS (dropS (appM (fldE "Web" "_marks" (varE 0)) (methE "Web" "stand" (varE 0) nilA (callP 1 sem_Web_stand))))
  (retS (binE (appE (consA (fldE "Web" "_marks" (varE 0)) nilA) lenP) (cE (.int 1)) subD)))
noncomputable def sem_Web_mark : List D → MS → Res D := shut (runF 1 B_Web_mark)
theorem sem_Web_mark_eq : sem_Web_mark = runF 1 B_Web_mark := shut_eq _
noncomputable def B_Web_put_back : SF := (seqS (asgS (varE 1) (tupT 4 (consT (nameT 2) (consT (nameT 3) (consT (fldT "Web" "_next_place" (varE 0)) (consT (fldT "Web" "_next_tie" (varE 0)) nilT))))))
  (seqS (fldS "Web" "_places" (varE 0) (dcompE (lstSrc (varE 2)) (nameT 4) yesT (varE 4) (cE (.bl true)) [4]))
  (fldS "Web" "_ties" (varE 0) (dcompE (lstSrc (varE 3)) (tupT 4 (consT (nameT 5) (consT (nameT 6) (consT (nameT 7) (consT (nameT 8) nilT))))) yesT (varE 5) (appE (consA (varE 6) (consA (varE 7) (consA (varE 8) nilA))) mkTup) [5, 6, 7, 8]))))
noncomputable def sem_Web_put_back : List D → MS → Res D := shut (runF 9 B_Web_put_back)
theorem sem_Web_put_back_eq : sem_Web_put_back = runF 9 B_Web_put_back := shut_eq _
noncomputable def B_Web_undo : SF := (seqS (ifS (notT (valT (chE (cE (.int 0)) (varE 1) (appE (consA (fldE "Web" "_marks" (varE 0)) nilA) lenP) leD ltD))) badS skipS)
  (seqS (dropS (methE "Web" "put_back" (varE 0) (consA (binE (fldE "Web" "_marks" (varE 0)) (varE 1) idxD) nilA) (callP 2 sem_Web_put_back)))
  (delF (fldE "Web" "_marks" (varE 0)) (binE (varE 1) (cE (.int 1)) addD))))
noncomputable def sem_Web_undo : List D → MS → Res D := shut (runF 2 B_Web_undo)
theorem sem_Web_undo_eq : sem_Web_undo = runF 2 B_Web_undo := shut_eq _
noncomputable def B__law_coming : SF := (seqS (setS 3 (methE "Web" "mark" (varE 0) nilA (callP 1 sem_Web_mark)))
  (seqS (setS 4 (iteE (valT (binE (appE (consA (varE 1) nilA) lenP) (cE (.int 60)) ltD)) (methE "Web" "place" (varE 0) nilA (callP 1 sem_Web_place)) (cE .non)))
  (seqS (setS 5 (iteE (valT (binE (appE (consA (varE 2) nilA) lenP) (cE (.int 200)) ltD)) (methE "Web" "tie" (varE 0) (consA (binE (varE 1) (cE (.int 0)) idxD) (consA (cE (.str "a")) (consA (binE (varE 1) (cE (.int 0)) idxD) nilA))) (callP 4 sem_Web_tie)) (cE .non)))
  (seqS (dropS (methE "Web" "undo" (varE 0) (consA (varE 3) nilA) (callP 2 sem_Web_undo)))
  (retS (appE (consA (binE (varE 3) (cE (.int 1)) addD) (consA (varE 4) (consA (varE 5) nilA))) mkLst))))))
noncomputable def sem__law_coming : List D → MS → Res D := shut (runF 6 B__law_coming)
theorem sem__law_coming_eq : sem__law_coming = runF 6 B__law_coming := shut_eq _
noncomputable def B_Web_ends_of : SF := (seqS (dropS (methE "Web" "_need_tie" (varE 0) (consA (varE 1) nilA) (callP 2 sem_Web__need_tie)))
  (retS (dgetE (fldE "Web" "_ties" (varE 0)) (varE 1))))
noncomputable def sem_Web_ends_of : List D → MS → Res D := shut (runF 2 B_Web_ends_of)
theorem sem_Web_ends_of_eq : sem_Web_ends_of = runF 2 B_Web_ends_of := shut_eq _
noncomputable def B_spelled : SF := (seqS (setS 2 (appE nilA mkMut))
  (seqS (forS (lstSrc (varE 1)) (tupT 2 (consT (nameT 3) (consT (nameT 4) nilT))) (seqS (asgS (methE "Web" "ends_of" (varE 0) (consA (varE 3) nilA) (callP 2 sem_Web_ends_of)) (tupT 3 (consT (nameT 5) (consT (nameT 6) (consT (nameT 5) nilT)))))
  (dropS (appM (varE 2) (iteE (valT (binE (varE 4) (cE (.str "on")) eqD)) (varE 6) (binE (cE (.str "^")) (varE 6) addD))))))
  (retS (varE 2))))
noncomputable def sem_spelled : List D → MS → Res D := shut (runF 7 B_spelled)
theorem sem_spelled_eq : sem_spelled = runF 7 B_spelled := shut_eq _
noncomputable def B__law_alike (rec : List D → MS → Res D) : SF := (seqS (ifS (truT (unE (varE 1) (is2P .list .tuple))) (seqS (ifS (orT (notT (truT (unE (varE 0) (is2P .list .tuple)))) (valT (binE (unE (varE 0) (isP .list)) (unE (varE 1) (isP .list)) neD))) (retS (cE (.bl false))) skipS)
  (seqS (ifS (valT (binE (appE (consA (varE 0) nilA) lenP) (appE (consA (varE 1) nilA) lenP) neD)) (retS (cE (.bl false))) skipS)
  (retS (appE (consA (compE endL (rngSrc1 (appE (consA (varE 1) nilA) lenP)) (nameT 2) yesT (appE (consA (binE (varE 0) (varE 2) idxD) (consA (binE (varE 1) (varE 2) idxD) nilA)) (callP 2 rec)) [2]) nilA) allP)))) skipS)
  (seqS (ifS (orT (valT (binE (unE (varE 0) (isP .bool)) (unE (varE 1) (isP .bool)) neD)) (valT (binE (unE (varE 0) (isP .int)) (unE (varE 1) (isP .int)) neD))) (retS (cE (.bl false))) skipS)
  (retS (andV (binE (unE (varE 0) (isP .str)) (unE (varE 1) (isP .str)) eqD) (binE (varE 0) (varE 1) eqD)))))
noncomputable def sem__law_alike : Nat → List D → MS → Res D
  | 0 => fun _ _ => .bad
  | n + 1 => shut (runF 3 (B__law_alike (sem__law_alike n)))
theorem sem__law_alike_eq (n : Nat) : sem__law_alike (n + 1) = runF 3 (B__law_alike (sem__law_alike n)) := shut_eq _
noncomputable def B_law : SF := (seqS (setS 1 (appE (consA (varE 0) nilA) (callP 1 sem__law_bag)))
  (seqS (setS 2 (binE (appE (consA (varE 1) (consA (cE (.int 2)) nilA)) (callP 2 sem__law_draw)) (cE (.int 1)) eqD))
  (seqS (forS (rngSrc1 (binE (cE (.int 1)) (appE (consA (binE (appE (consA (varE 0) nilA) lenP) (cE (.int 4)) divD) (consA (cE (.int 4)) nilA)) min2P) addD)) (nameT 3) (seqS (setS 4 (appE (consA (varE 1) (consA (cE (.int 8)) nilA)) (callP 2 sem__law_draw)))
  (seqS (setS 5 (appE (consA (varE 1) nilA) (callP 1 sem__law_names)))
  (seqS (asgS (binE (appE (consA (appE (consA (cE (.int 5)) (consA (cE (.int 9)) nilA)) mkTup) (consA (appE (consA (cE (.int 20)) (consA (cE (.int 40)) nilA)) mkTup) (consA (appE (consA (cE (.int 60)) (consA (cE (.int 201)) nilA)) mkTup) nilA))) mkLst) (appE (consA (cE (.int 0)) (consA (binE (varE 4) (cE (.int 5)) subD) nilA)) max2P) idxD) (tupT 2 (consT (nameT 6) (consT (nameT 7) nilT))))
  (seqS (asgS (appE (consA (varE 1) (consA (varE 5) (consA (binE (cE (.int 1)) (appE (consA (varE 1) (consA (varE 6) nilA)) (callP 2 sem__law_draw)) addD) (consA (appE (consA (varE 1) (consA (varE 7) nilA)) (callP 2 sem__law_draw)) nilA)))) (callP 4 sem__law_web)) (tupT 3 (consT (nameT 8) (consT (nameT 9) (consT (nameT 10) nilT)))))
  (seqS (setS 11 (binE (appE (consA (varE 1) (consA (binE (appE (consA (cE (.int 9)) (consA (cE (.int 60)) (consA (cE (.int 401)) nilA))) mkLst) (binE (appE (consA (varE 1) (consA (cE (.int 3)) nilA)) (callP 2 sem__law_draw)) (appE (consA (binE (varE 4) (cE (.int 4)) gtD) nilA) intP) mulD) idxD) nilA)) (callP 2 sem__law_draw)) (appE (consA (binE (varE 10) (appE nilA mkLst) neD) nilA) intP) mulD))
  (seqS (setS 12 (compE endL (rngSrc1 (varE 11)) (nameT 16) yesT (binE (varE 10) (appE (consA (varE 1) (consA (appE (consA (varE 10) nilA) lenP) nilA)) (callP 2 sem__law_draw)) idxD) [16]))
  (seqS (setS 13 (compE endL (lstSrc (varE 12)) (nameT 19) yesT (binE (appE (consA (cE (.str "on")) (consA (cE (.str "back")) nilA)) mkLst) (appE (consA (varE 1) (consA (cE (.int 2)) nilA)) (callP 2 sem__law_draw)) idxD) [19]))
  (seqS (setS 4 (compE endL (rngSrc1 (varE 11)) (nameT 16) yesT (appE (consA (binE (binE (varE 12) (varE 16) idxD) (cE (.int 0)) idxD) (consA (binE (varE 13) (varE 16) idxD) nilA)) mkTup) [16]))
  (seqS (setS 14 (compE endL (rngSrc1 (varE 11)) (nameT 16) yesT (binE (iteE (valT (binE (binE (varE 13) (varE 16) idxD) (cE (.str "on")) eqD)) (cE (.str "")) (cE (.str "^"))) (binE (binE (varE 12) (varE 16) idxD) (cE (.int 2)) idxD) addD) [16]))
  (seqS (setS 15 (appE (consA (varE 8) (consA (varE 9) (consA (varE 10) nilA))) (callP 3 sem__law_coming)))
  (seqS (forS (rngSrc1 (cE (.int 2))) (nameT 16) (seqS (setS 17 (appE (consA (varE 4) nilA) (listP mkLst)))
  (seqS (setS 18 (iteE (truT (varE 2)) (kwE nilA (consA (varE 17) (consA (varE 8) nilA)) (kwP 2 0 2 [1, 0] sem_spelled)) (appE (consA (varE 8) (consA (varE 17) nilA)) (callP 2 sem_spelled))))
  (seqS (ifS (orT (notT (truT (appE (consA (varE 18) (consA (varE 14) nilA)) (callP 2 (sem__law_alike 4))))) (valT (binE (varE 17) (varE 4) neD))) (retS (cE (.bl false))) skipS)
  (seqS (dropS (appM (varE 18) (cE (.str "a"))))
  (seqS (ifS (andT (valT (binE (varE 16) (cE (.int 0)) eqD)) (valT (binE (appE (consA (varE 8) (consA (varE 9) (consA (varE 10) nilA))) (callP 3 sem__law_coming)) (binE (appE (consA (binE (binE (varE 15) (cE (.int 0)) idxD) (cE (.int 1)) addD) nilA) mkLst) (sliceE mkLst (varE 15) (someO (cE (.int 1))) nonO) addD) neD))) (retS (cE (.bl false))) skipS)
  (ifS (andT (valT (binE (appE (consA (varE 10) nilA) lenP) (cE (.int 200)) ltD)) (andT (valT (binE (varE 16) (cE (.int 0)) eqD)) (valT (binE (appE (consA (varE 1) (consA (cE (.int 2)) nilA)) (callP 2 sem__law_draw)) (cE (.int 1)) eqD)))) (dropS (methE "Web" "tie" (varE 8) (consA (binE (varE 9) (cE (.int 0)) idxD) (consA (binE (varE 5) (cE (.int 0)) idxD) (consA (binE (varE 9) (unE (cE (.int 1)) negD) idxD) nilA))) (callP 4 sem_Web_tie))) skipS)))))))
  (ifS (valT (binE (sliceE mkLst (methE "Web" "ties" (varE 8) nilA (callP 1 sem_Web_ties)) nonO (someO (appE (consA (varE 10) nilA) lenP))) (varE 10) neD)) (retS (cE (.bl false))) skipS)))))))))))))
  (retS (cE (.bl true))))))
noncomputable def sem_law : List D → MS → Res D := shut (runF 20 B_law)
theorem sem_law_eq : sem_law = runF 20 B_law := shut_eq _
abbrev topS (i : Nat) : Stmt := PySem.Challenge.pw_wordways_k31_letters_of_steps.main.body.getD i (.Pass ⟨9, 9, 9, 9⟩)
structure Txt (K : PySem.W.Frag) (mg : Str → Option Value) : Prop where
  q_Web : Nonempty (KC K mg "Web" ["_most_places", "_most_ties", "_places", "_ties", "_next_place", "_next_tie", "_marks"])
  z_abs : mg "abs" = none
  z_all : mg "all" = none
  z_bool : mg "bool" = none
  z_int : mg "int" = none
  z_isinstance : mg "isinstance" = none
  z_len : mg "len" = none
  z_list : mg "list" = none
  z_max : mg "max" = none
  z_min : mg "min" = none
  z_range : mg "range" = none
  z_sorted : mg "sorted" = none
  z_str : mg "str" = none
  z_tuple : mg "tuple" = none
  c_LONGEST_NAME : ∀ {X : Cx} {E : EW} {pos : Pos}, (hg : Gl X "LONGEST_NAME") → (hm : X.mg = mg := by rfl) → (hk : X.K = K := by rfl) → DE X E (.Name "LONGEST_NAME" pos) (cE c_LONGEST_NAME)
  c_SMALL_LETTERS : ∀ {X : Cx} {E : EW} {pos : Pos}, (hg : Gl X "SMALL_LETTERS") → (hm : X.mg = mg := by rfl) → (hk : X.K = K := by rfl) → DE X E (.Name "SMALL_LETTERS" pos) (cE c_SMALL_LETTERS)
section
variable {P : Program} {w : World} {K : PySem.W.Frag} {mg : Str → Option Value} {base : Heap} {f : Addr} {fd : FuncData}
abbrev s__law_bag : Stmt := topS 18
abbrev N__law_bag : List Str := ["script", "stir", "cell"]
theorem sc__law_bag : FnScope N__law_bag ["script"] (defScope s__law_bag) := ⟨rfl, rfl, rfl, by decide +kernel, rfl, by decide +kernel, by decide +kernel⟩
theorem ok__law_bag (F : Fun K "_law_bag" "_law_bag" s__law_bag f fd) (T : Txt K mg)   : FnOk P w K mg base CX0 1 f fd ["script"] (dSp K 1 sem__law_bag) :=
  sem__law_bag_eq ▸ fn_run F sc__law_bag fun cdv A outer s H EX hr =>
    (s_cons (s_set (i := 1) sc__law_bag.nd rfl (by first | exact Or.inl rfl | exact Or.inr rfl) d_int)
    (s_cons (s_for PassesOwn.never rfl (i_lst (d_slice (d_var (pv 0)) o_none (o_some d_int))) (g_name (i := 2) sc__law_bag.nd rfl (by first | exact Or.inl rfl | exact Or.inr rfl)) (s_one (s_set (i := 1) sc__law_bag.nd rfl (by first | exact Or.inl rfl | exact Or.inr rfl) (d_mod (d_add (d_add (d_mul (d_var (pv 1)) d_int) (d_mod (d_var (pv 2)) d_int)) d_int) d_int))))
    (s_one (s_ret (d_mut (a_cons (d_comp (own := [("cell", 2)]) (T := (nameT 2)) endL_ok rfl sc__law_bag.nd (i_lst (d_slice (d_var (pv 0)) o_none (o_some d_int))) (blkOk_by (own := [("cell", 2)]) (N := N__law_bag) (sc := defScope s__law_bag) (by decide +kernel)) (fun _ _ _ _ _ => (pg_name (i := 2) sc__law_bag.nd rfl (by first | exact Or.inl rfl | exact Or.inr rfl))) (k_name (by decide)) (fun _ _ _ _ _ => ts_nil) (fun _ _ _ _ _ => (d_mod (d_blt call_abs p_abs (by rfl) T.z_abs (by decide +kernel) (a_cons (d_var (pv 2)) a_nil)) (d_pow (d_pow d_int d_int) d_int)))) (a_cons d_int (a_cons d_int (a_cons (d_var (pv 1)) (a_cons d_int a_nil))))))))))
abbrev s__law_stirred : Stmt := topS 19
abbrev N__law_stirred : List Str := ["bag", "many", "got", "k"]
theorem sc__law_stirred : FnScope N__law_stirred ["bag", "many"] (defScope s__law_stirred) := ⟨rfl, rfl, rfl, by decide +kernel, rfl, by decide +kernel, by decide +kernel⟩
theorem ok__law_stirred (F : Fun K "_law_stirred" "_law_stirred" s__law_stirred f fd) (T : Txt K mg)   : FnOk P w K mg base CX0 1 f fd ["bag", "many"] (dSp K 2 sem__law_stirred) :=
  sem__law_stirred_eq ▸ fn_run F sc__law_stirred fun cdv A outer s H EX hr =>
    (s_cons (s_set (i := 2) sc__law_stirred.nd rfl (by first | exact Or.inl rfl | exact Or.inr rfl) d_int)
    (s_cons (s_for PassesOwn.never rfl (i_rng1 (by rfl) T.z_range (d_add d_int (d_div (d_bits (d_var (pv 1))) d_int))) (g_name (i := 3) sc__law_stirred.nd rfl (by first | exact Or.inl rfl | exact Or.inr rfl)) (s_cons (s_asg (d_add (d_idx (d_var (pv 0)) d_int) d_int) (g_sub (d_var (pv 0)) d_int))
    (s_cons (s_asg (d_mod (d_add (d_add (d_add (d_pow (d_idx (d_var (pv 0)) d_int) d_int) (d_mul d_int (d_idx (d_var (pv 0)) d_int))) (d_mul d_int (d_idx (d_var (pv 0)) d_int))) d_int) d_int) (g_sub (d_var (pv 0)) d_int))
    (s_one (s_set (i := 2) sc__law_stirred.nd rfl (by first | exact Or.inl rfl | exact Or.inr rfl) (d_add (d_mul (d_var (pv 2)) d_int) (d_div (d_idx (d_var (pv 0)) d_int) d_int)))))))
    (s_one (s_ret (d_mod (d_var (pv 2)) (d_var (pv 1)))))))
abbrev s__law_draw : Stmt := topS 20
abbrev N__law_draw : List Str := ["bag", "many", "got"]
theorem sc__law_draw : FnScope N__law_draw ["bag", "many"] (defScope s__law_draw) := ⟨rfl, rfl, rfl, by decide +kernel, rfl, by decide +kernel, by decide +kernel⟩
theorem ok__law_draw (F : Fun K "_law_draw" "_law_draw" s__law_draw f fd) (T : Txt K mg) (C__law_stirred : Cal P w K mg base 1 "_law_stirred" ["bag", "many"] sem__law_stirred)  : FnOk P w K mg base CX0 2 f fd ["bag", "many"] (dSp K 2 sem__law_draw) :=
  sem__law_draw_eq ▸ fn_run F sc__law_draw fun cdv A outer s H EX hr =>
    (s_cons (s_if (t_w (w_and (t_cmp (op_eqA hr.units) q_eq (d_idx (d_var (pv 0)) d_int) d_int (nomark _)) (w_and1 (t_cmp op_lt q_lt (d_idx (d_var (pv 0)) d_int) (d_blt (call_len_seq.or call_len_str) p_len (by rfl) T.z_len (by decide +kernel) (a_cons (d_idx (d_var (pv 0)) d_int) a_nil)) (nomark _))))) (s_cons (s_asg (d_idx (d_idx (d_var (pv 0)) d_int) (d_idx (d_var (pv 0)) d_int)) (g_sub (d_var (pv 0)) d_int))
    (s_one (s_asg (d_add (d_idx (d_var (pv 0)) d_int) d_int) (g_sub (d_var (pv 0)) d_int)))) (s_one (s_if (t_cmp (op_eqA hr.units) q_eq (d_idx (d_var (pv 0)) d_int) d_int (nomark _)) (s_one (s_ret (c_call C__law_stirred (hr.mono (by omega)) (a_cons (d_var (pv 0)) (a_cons (d_var (pv 1)) a_nil))))) s_nil)))
    (s_cons (s_set (i := 2) sc__law_draw.nd rfl (by first | exact Or.inl rfl | exact Or.inr rfl) (d_mod (d_idx (d_var (pv 0)) d_int) (d_var (pv 1))))
    (s_cons (s_asg (d_div (d_idx (d_var (pv 0)) d_int) (d_var (pv 1))) (g_sub (d_var (pv 0)) d_int))
    (s_one (s_ret (d_var (pv 2)))))))
abbrev s__law_names : Stmt := topS 22
abbrev N__law_names : List Str := ["bag", "way", "got", "k", "some", "j"]
theorem sc__law_names : FnScope N__law_names ["bag"] (defScope s__law_names) := ⟨rfl, rfl, rfl, by decide +kernel, rfl, by decide +kernel, by decide +kernel⟩
theorem ok__law_names (F : Fun K "_law_names" "_law_names" s__law_names f fd) (T : Txt K mg) (C__law_draw : Cal P w K mg base 2 "_law_draw" ["bag", "many"] sem__law_draw)  : FnOk P w K mg base CX0 3 f fd ["bag"] (dSp K 1 sem__law_names) :=
  sem__law_names_eq ▸ fn_runT F sc__law_names fun cdv A outer s H EX hr =>
    (s_cons (s_set (i := 1) sc__law_names.nd rfl (by first | exact Or.inl rfl | exact Or.inr rfl) (c_call C__law_draw (hr.mono (by omega)) (a_cons (d_var (pv 0)) (a_cons d_int a_nil))))
    (s_cons (s_if (t_cmp op_lt q_lt (d_var (pv 1)) d_int (nomark _)) (s_one (s_ret (d_idx (d_lst (a_cons (d_lst (a_cons d_str (a_cons d_str (a_cons d_str (a_cons d_str a_nil))))) (a_cons (d_lst (a_cons d_str (a_cons d_str (a_cons d_str (a_cons d_str a_nil))))) (a_cons (d_lst (a_cons d_str (a_cons d_str (a_cons d_str (a_cons d_str a_nil))))) a_nil)))) (d_var (pv 1))))) s_nil)
    (s_cons (s_set (i := 2) sc__law_names.nd rfl (by first | exact Or.inl rfl | exact Or.inr rfl) (d_mut a_nil))
    (s_cons (s_for PassesOwn.never rfl (i_rng1 (by rfl) T.z_range d_int) (g_name (i := 3) sc__law_names.nd rfl (by first | exact Or.inl rfl | exact Or.inr rfl)) (s_cons (s_setComp (i := 4) (own := [("j", 5)]) (T := (nameT 5)) endL_ok rfl sc__law_names.nd rfl rfl (sw_true rfl rfl rfl (by decide +kernel)) (i_rng1 (by rfl) T.z_range (d_add d_int (c_call C__law_draw (hr.mono (by omega)) (a_cons (d_var (pv 0)) (a_cons d_int a_nil))))) (blkOk_by (own := [("j", 5)]) (N := N__law_names) (sc := defScope s__law_names) (by decide +kernel)) (fun _ _ _ _ _ => (pg_name (i := 5) sc__law_names.nd rfl (by first | exact Or.inl rfl | exact Or.inr rfl))) (k_name (by decide)) (fun _ _ _ _ _ => ts_nil) (fun _ _ _ _ _ => (d_idx d_str (c_call C__law_draw (hr.mono (by omega)) (a_cons (d_var (pv 0)) (a_cons d_int a_nil))))))
    (s_one (s_drop (d_append (d_var (pv 2)) (d_join d_str (d_var (pv 4))))))))
    (s_one (s_ret (d_var (pv 2))))))))
abbrev s_Web___init__ : Stmt := inClass (topS 16) 0
abbrev N_Web___init__ : List Str := ["self", "most_places", "most_ties"]
theorem sc_Web___init__ : FnScope N_Web___init__ ["self", "most_places", "most_ties"] (defScope s_Web___init__) := ⟨rfl, rfl, rfl, by decide +kernel, rfl, by decide +kernel, by decide +kernel⟩
theorem ok_Web___init__ (F : Fun K "__init__" "Web.__init__" s_Web___init__ f fd) (T : Txt K mg)   : FnOk P w K mg base CX0 1 f fd ["self", "most_places", "most_ties"] (dSp K 3 sem_Web___init__) :=
  sem_Web___init___eq ▸ fn_run F sc_Web___init__ fun cdv A outer s H EX hr =>
    (s_cons (s_fld (Classical.choice T.q_Web) (by simp) (d_var (pv 0)) (d_var (pv 1)))
    (s_cons (s_fld (Classical.choice T.q_Web) (by simp) (d_var (pv 0)) (d_var (pv 2)))
    (s_cons (s_fld (Classical.choice T.q_Web) (by simp) (d_var (pv 0)) d_dnew)
    (s_cons (s_fld (Classical.choice T.q_Web) (by simp) (d_var (pv 0)) d_dnew)
    (s_cons (s_fld (Classical.choice T.q_Web) (by simp) (d_var (pv 0)) d_int)
    (s_cons (s_fld (Classical.choice T.q_Web) (by simp) (d_var (pv 0)) d_int)
    (s_one (s_fld (Classical.choice T.q_Web) (by simp) (d_var (pv 0)) (d_mut a_nil)))))))))
abbrev s_Web_place : Stmt := inClass (topS 16) 2
abbrev N_Web_place : List Str := ["self", "place"]
theorem sc_Web_place : FnScope N_Web_place ["self"] (defScope s_Web_place) := ⟨rfl, rfl, rfl, by decide +kernel, rfl, by decide +kernel, by decide +kernel⟩
theorem ok_Web_place (F : Fun K "place" "Web.place" s_Web_place f fd) (T : Txt K mg)   : FnOk P w K mg base CX0 1 f fd ["self"] (dSp K 1 sem_Web_place) :=
  sem_Web_place_eq ▸ fn_run F sc_Web_place fun cdv A outer s H EX hr =>
    (s_cons (s_if (t_cmp op_ge q_ge (d_lenD (by rfl) T.z_len (a_cons (d_fld (Classical.choice T.q_Web) (by simp) (d_var (pv 0))) a_nil)) (d_fld (Classical.choice T.q_Web) (by simp) (d_var (pv 0))) (nomark _)) (s_one s_bad) s_nil)
    (s_cons (s_set (i := 1) sc_Web_place.nd rfl (by first | exact Or.inl rfl | exact Or.inr rfl) (d_fld (Classical.choice T.q_Web) (by simp) (d_var (pv 0))))
    (s_cons (s_dput hr.units (d_fld (Classical.choice T.q_Web) (by simp) (d_var (pv 0))) (d_var (pv 1)) d_bl)
    (s_cons (s_fld (Classical.choice T.q_Web) (by simp) (d_var (pv 0)) (d_add (d_var (pv 1)) d_int))
    (s_one (s_ret (d_var (pv 1))))))))
abbrev s_Web__need_place : Stmt := inClass (topS 16) 14
abbrev N_Web__need_place : List Str := ["self", "place"]
theorem sc_Web__need_place : FnScope N_Web__need_place ["self", "place"] (defScope s_Web__need_place) := ⟨rfl, rfl, rfl, by decide +kernel, rfl, by decide +kernel, by decide +kernel⟩
theorem ok_Web__need_place (F : Fun K "_need_place" "Web._need_place" s_Web__need_place f fd) (T : Txt K mg)   : FnOk P w K mg base CX0 1 f fd ["self", "place"] (dSp K 2 sem_Web__need_place) :=
  sem_Web__need_place_eq ▸ fn_run F sc_Web__need_place fun cdv A outer s H EX hr =>
    (s_one (s_if (t_dnin hr.units (d_var (pv 1)) (d_fld (Classical.choice T.q_Web) (by simp) (d_var (pv 0)))) (s_one s_bad) s_nil))
abbrev s_Web_ties : Stmt := inClass (topS 16) 7
abbrev N_Web_ties : List Str := ["self", "tie"]
theorem sc_Web_ties : FnScope N_Web_ties ["self"] (defScope s_Web_ties) := ⟨rfl, rfl, rfl, by decide +kernel, rfl, by decide +kernel, by decide +kernel⟩
theorem ok_Web_ties (F : Fun K "ties" "Web.ties" s_Web_ties f fd) (T : Txt K mg)   : FnOk P w K mg base CX0 1 f fd ["self"] (dSp K 1 sem_Web_ties) :=
  sem_Web_ties_eq ▸ fn_run F sc_Web_ties fun cdv A outer s H EX hr =>
    (s_one (s_ret (d_comp (own := [("tie", 1)]) (T := (nameT 1)) endL_ok rfl sc_Web_ties.nd (i_lst (d_sortQ rfl (by rfl) T.z_sorted (a_cons (d_fld (Classical.choice T.q_Web) (by simp) (d_var (pv 0))) a_nil))) (blkOk_by (own := [("tie", 1)]) (N := N_Web_ties) (sc := defScope s_Web_ties) (by decide +kernel)) (fun _ _ _ _ _ => (pg_name (i := 1) sc_Web_ties.nd rfl (by first | exact Or.inl rfl | exact Or.inr rfl))) (k_name (by decide)) (fun _ _ _ _ _ => ts_nil) (fun _ _ _ _ _ => (d_tup (a_cons (d_var (pv 1)) (a_star (d_dget hr.units (d_fld (Classical.choice T.q_Web) (by simp) (d_var (pv 0))) (d_var (pv 1))) a_nil)))))))
abbrev s_Web_ties_at : Stmt := inClass (topS 16) 9
abbrev N_Web_ties_at : List Str := ["self", "place", "tie", "start", "_", "goal"]
theorem sc_Web_ties_at : FnScope N_Web_ties_at ["self", "place"] (defScope s_Web_ties_at) := ⟨rfl, rfl, rfl, by decide +kernel, rfl, by decide +kernel, by decide +kernel⟩
theorem ok_Web_ties_at (F : Fun K "ties_at" "Web.ties_at" s_Web_ties_at f fd) (T : Txt K mg) (C_Web__need_place : CalM P w K mg base 1 "Web" "_need_place" ["self", "place"] sem_Web__need_place) (C_Web_ties : CalM P w K mg base 1 "Web" "ties" ["self"] sem_Web_ties)  : FnOk P w K mg base CX0 2 f fd ["self", "place"] (dSp K 2 sem_Web_ties_at) :=
  sem_Web_ties_at_eq ▸ fn_run F sc_Web_ties_at fun cdv A outer s H EX hr =>
    (s_cons (s_drop (c_meth C_Web__need_place (hr.mono (by omega)) (d_var (pv 0)) (a_cons (d_var (pv 1)) a_nil)))
    (s_one (s_ret (d_comp (own := [("tie", 2), ("start", 3), ("_", 4), ("goal", 5)]) (T := (tupT 4 (consT (nameT 2) (consT (nameT 3) (consT (nameT 4) (consT (nameT 5) nilT)))))) endL_ok rfl sc_Web_ties_at.nd (i_lst (c_meth0 C_Web_ties (hr.mono (by omega)) (d_var (pv 0)))) (blkOk_by (own := [("tie", 2), ("start", 3), ("_", 4), ("goal", 5)]) (N := N_Web_ties_at) (sc := defScope s_Web_ties_at) (by decide +kernel)) (fun _ _ _ _ _ => (pg_tup rfl (pgs_cons (pg_name (i := 2) sc_Web_ties_at.nd rfl (by first | exact Or.inl rfl | exact Or.inr rfl)) (pgs_cons (pg_name (i := 3) sc_Web_ties_at.nd rfl (by first | exact Or.inl rfl | exact Or.inr rfl)) (pgs_cons (pg_name (i := 4) sc_Web_ties_at.nd rfl (by first | exact Or.inl rfl | exact Or.inr rfl)) (pgs_cons (pg_name (i := 5) sc_Web_ties_at.nd rfl (by first | exact Or.inl rfl | exact Or.inr rfl)) pgs_nil)))))) (k_tup (k_cons (by decide) (k_cons (by decide) (k_cons (by decide) (k_cons (by decide) k_nil))))) (fun _ _ _ _ _ => (ts_one (t_cmp op_inD (q_in false) (d_var (pv 1)) (d_tup (a_cons (d_var (pv 3)) (a_cons (d_var (pv 5)) a_nil))) (by rfl)))) (fun _ _ _ _ _ => (d_var (pv 2)))))))
abbrev s_Web_drop : Stmt := inClass (topS 16) 5
abbrev N_Web_drop : List Str := ["self", "place"]
theorem sc_Web_drop : FnScope N_Web_drop ["self", "place"] (defScope s_Web_drop) := ⟨rfl, rfl, rfl, by decide +kernel, rfl, by decide +kernel, by decide +kernel⟩
theorem ok_Web_drop (F : Fun K "drop" "Web.drop" s_Web_drop f fd) (T : Txt K mg) (C_Web_ties_at : CalM P w K mg base 2 "Web" "ties_at" ["self", "place"] sem_Web_ties_at)  : FnOk P w K mg base CX0 3 f fd ["self", "place"] (dSp K 2 sem_Web_drop) :=
  sem_Web_drop_eq ▸ fn_run F sc_Web_drop fun cdv A outer s H EX hr =>
    (s_cons (s_if (t_tru (c_meth C_Web_ties_at (hr.mono (by omega)) (d_var (pv 0)) (a_cons (d_var (pv 1)) a_nil))) (s_one s_bad) s_nil)
    (s_one (s_ddel (d_fld (Classical.choice T.q_Web) (by simp) (d_var (pv 0))) (d_var (pv 1)))))
abbrev s_Web__need_tie : Stmt := inClass (topS 16) 15
abbrev N_Web__need_tie : List Str := ["self", "tie"]
theorem sc_Web__need_tie : FnScope N_Web__need_tie ["self", "tie"] (defScope s_Web__need_tie) := ⟨rfl, rfl, rfl, by decide +kernel, rfl, by decide +kernel, by decide +kernel⟩
theorem ok_Web__need_tie (F : Fun K "_need_tie" "Web._need_tie" s_Web__need_tie f fd) (T : Txt K mg)   : FnOk P w K mg base CX0 1 f fd ["self", "tie"] (dSp K 2 sem_Web__need_tie) :=
  sem_Web__need_tie_eq ▸ fn_run F sc_Web__need_tie fun cdv A outer s H EX hr =>
    (s_one (s_if (t_dnin hr.units (d_var (pv 1)) (d_fld (Classical.choice T.q_Web) (by simp) (d_var (pv 0)))) (s_one s_bad) s_nil))
abbrev s_Web_cut : Stmt := inClass (topS 16) 4
abbrev N_Web_cut : List Str := ["self", "tie"]
theorem sc_Web_cut : FnScope N_Web_cut ["self", "tie"] (defScope s_Web_cut) := ⟨rfl, rfl, rfl, by decide +kernel, rfl, by decide +kernel, by decide +kernel⟩
theorem ok_Web_cut (F : Fun K "cut" "Web.cut" s_Web_cut f fd) (T : Txt K mg) (C_Web__need_tie : CalM P w K mg base 1 "Web" "_need_tie" ["self", "tie"] sem_Web__need_tie)  : FnOk P w K mg base CX0 2 f fd ["self", "tie"] (dSp K 2 sem_Web_cut) :=
  sem_Web_cut_eq ▸ fn_run F sc_Web_cut fun cdv A outer s H EX hr =>
    (s_cons (s_drop (c_meth C_Web__need_tie (hr.mono (by omega)) (d_var (pv 0)) (a_cons (d_var (pv 1)) a_nil)))
    (s_one (s_ddel (d_fld (Classical.choice T.q_Web) (by simp) (d_var (pv 0))) (d_var (pv 1)))))
abbrev s_is_name : Stmt := topS 3
abbrev N_is_name : List Str := ["text", "sign"]
theorem sc_is_name : FnScope N_is_name ["text"] (defScope s_is_name) := ⟨rfl, rfl, rfl, by decide +kernel, rfl, by decide +kernel, by decide +kernel⟩
theorem ok_is_name (F : Fun K "is_name" "is_name" s_is_name f fd) (T : Txt K mg)   : FnOk P w K mg base CX0 1 f fd ["text"] (dSp K 1 sem_is_name) :=
  sem_is_name_eq ▸ fn_run F sc_is_name fun cdv A outer s H EX hr =>
    (s_cons (s_if (t_not (t_chain op_le op_le (fun _ => q_le) q_le d_int (d_blt (call_len_seq.or call_len_str) p_len (by rfl) T.z_len (by decide +kernel) (a_cons (d_var (pv 0)) a_nil)) (T.c_LONGEST_NAME (by rfl)))) (s_one (s_ret d_bl)) s_nil)
    (s_one (s_ret (d_blt (cr_all rfl) p_all (by rfl) T.z_all (by decide +kernel) (a_cons (d_comp (own := [("sign", 1)]) (T := (nameT 1)) endL_ok rfl sc_is_name.nd (i_str (d_var (pv 0))) (blkOk_by (own := [("sign", 1)]) (N := N_is_name) (sc := defScope s_is_name) (by decide +kernel)) (fun _ _ _ _ _ => (pg_name (i := 1) sc_is_name.nd rfl (by first | exact Or.inl rfl | exact Or.inr rfl))) (k_name (by decide)) (fun _ _ _ _ _ => ts_nil) (fun _ _ _ _ _ => (d_cmp op_inD (q_in false) (d_var (pv 1)) (T.c_SMALL_LETTERS (by rfl)) (by rfl)))) a_nil)))))
abbrev s_Web_tie : Stmt := inClass (topS 16) 3
abbrev N_Web_tie : List Str := ["self", "start", "name", "goal", "tie"]
theorem sc_Web_tie : FnScope N_Web_tie ["self", "start", "name", "goal"] (defScope s_Web_tie) := ⟨rfl, rfl, rfl, by decide +kernel, rfl, by decide +kernel, by decide +kernel⟩
theorem ok_Web_tie (F : Fun K "tie" "Web.tie" s_Web_tie f fd) (T : Txt K mg) (C_Web__need_place : CalM P w K mg base 1 "Web" "_need_place" ["self", "place"] sem_Web__need_place) (C_is_name : Cal P w K mg base 1 "is_name" ["text"] sem_is_name)  : FnOk P w K mg base CX0 2 f fd ["self", "start", "name", "goal"] (dSp K 4 sem_Web_tie) :=
  sem_Web_tie_eq ▸ fn_run F sc_Web_tie fun cdv A outer s H EX hr =>
    (s_cons (s_drop (c_meth C_Web__need_place (hr.mono (by omega)) (d_var (pv 0)) (a_cons (d_var (pv 1)) a_nil)))
    (s_cons (s_drop (c_meth C_Web__need_place (hr.mono (by omega)) (d_var (pv 0)) (a_cons (d_var (pv 3)) a_nil)))
    (s_cons (s_if (t_not (t_tru (c_call C_is_name (hr.mono (by omega)) (a_cons (d_var (pv 2)) a_nil)))) (s_one s_bad) s_nil)
    (s_cons (s_if (t_cmp op_ge q_ge (d_lenD (by rfl) T.z_len (a_cons (d_fld (Classical.choice T.q_Web) (by simp) (d_var (pv 0))) a_nil)) (d_fld (Classical.choice T.q_Web) (by simp) (d_var (pv 0))) (nomark _)) (s_one s_bad) s_nil)
    (s_cons (s_set (i := 4) sc_Web_tie.nd rfl (by first | exact Or.inl rfl | exact Or.inr rfl) (d_fld (Classical.choice T.q_Web) (by simp) (d_var (pv 0))))
    (s_cons (s_dput hr.units (d_fld (Classical.choice T.q_Web) (by simp) (d_var (pv 0))) (d_var (pv 4)) (d_tup (a_cons (d_var (pv 1)) (a_cons (d_var (pv 2)) (a_cons (d_var (pv 3)) a_nil)))))
    (s_cons (s_fld (Classical.choice T.q_Web) (by simp) (d_var (pv 0)) (d_add (d_var (pv 4)) d_int))
    (s_one (s_ret (d_var (pv 4)))))))))))
abbrev s__law_web : Stmt := topS 23
abbrev N__law_web : List Str := ["bag", "names", "many", "ties", "near", "gaps", "more", "odd", "net", "spots", "k", "own", "at", "to", "name"]
theorem sc__law_web : FnScope N__law_web ["bag", "names", "many", "ties"] (defScope s__law_web) := ⟨rfl, rfl, rfl, by decide +kernel, rfl, by decide +kernel, by decide +kernel⟩
theorem ok__law_web (F : Fun K "_law_web" "_law_web" s__law_web f fd) (T : Txt K mg) (C__law_draw : Cal P w K mg base 2 "_law_draw" ["bag", "many"] sem__law_draw) (C_Web___init__ : CalD P w K mg base 1 "Web" ["self", "most_places", "most_ties"] sem_Web___init__ dv_Web___init__) (CK_Web___init__ : CalK P w K mg base 1 "Web" ["self", "most_places", "most_ties"] ["most_places", "most_ties"] [0, 1, 2] sem_Web___init__) (C_Web_place : CalM P w K mg base 1 "Web" "place" ["self"] sem_Web_place) (C_Web_drop : CalM P w K mg base 3 "Web" "drop" ["self", "place"] sem_Web_drop) (C_Web_cut : CalM P w K mg base 2 "Web" "cut" ["self", "tie"] sem_Web_cut) (C_Web_tie : CalM P w K mg base 2 "Web" "tie" ["self", "start", "name", "goal"] sem_Web_tie)  : FnOk P w K mg base CX0 4 f fd ["bag", "names", "many", "ties"] (dSp K 4 sem__law_web) :=
  sem__law_web_eq ▸ fn_run F sc__law_web fun cdv A outer s H EX hr =>
    (s_cons (s_set (i := 4) sc__law_web.nd rfl (by first | exact Or.inl rfl | exact Or.inr rfl) (c_call C__law_draw (hr.mono (by omega)) (a_cons (d_var (pv 0)) (a_cons d_int a_nil))))
    (s_cons (s_set (i := 5) sc__law_web.nd rfl (by first | exact Or.inl rfl | exact Or.inr rfl) (d_cmp (op_eqA hr.units) q_eq (c_call C__law_draw (hr.mono (by omega)) (a_cons (d_var (pv 0)) (a_cons d_int a_nil))) d_int (nomark _)))
    (s_cons (s_set (i := 6) sc__law_web.nd rfl (by first | exact Or.inl rfl | exact Or.inr rfl) (d_ite (t_tru (d_var (pv 5))) (c_call C__law_draw (hr.mono (by omega)) (a_cons (d_var (pv 0)) (a_cons (d_add (d_blt (call_min2 rfl) p_min2 (by rfl) T.z_min (by decide +kernel) (a_cons (d_var (pv 2)) (a_cons (d_sub d_int (d_var (pv 2))) a_nil))) d_int) a_nil))) d_int))
    (s_cons (s_set (i := 7) sc__law_web.nd rfl (by first | exact Or.inl rfl | exact Or.inr rfl) (d_ite (t_tru (d_var (pv 5))) (c_call C__law_draw (hr.mono (by omega)) (a_cons (d_var (pv 0)) (a_cons (d_add (d_blt (call_min2 rfl) p_min2 (by rfl) T.z_min (by decide +kernel) (a_cons (d_var (pv 3)) (a_cons (d_sub d_int (d_var (pv 3))) a_nil))) d_int) a_nil))) d_int))
    (s_cons (s_set (i := 8) sc__law_web.nd rfl (by first | exact Or.inl rfl | exact Or.inr rfl) (d_ite (t_w (w_and (t_tru (d_var (pv 5))) (w_and1 (t_cmp (op_eqA hr.units) q_eq (c_call C__law_draw (hr.mono (by omega)) (a_cons (d_var (pv 0)) (a_cons d_int a_nil))) d_int (nomark _))))) (c_makeK CK_Web___init__ (hr.mono (by omega)) (kw_cons (d_add (d_add (d_var (pv 2)) (d_var (pv 6))) d_int) (kw_cons (d_add (d_add (d_var (pv 3)) (d_var (pv 7))) d_int) kw_nil))) (c_make0D C_Web___init__ (hr.mono (by omega)))))
    (s_cons (s_setComp (i := 9) (own := [("k", 10)]) (T := (nameT 10)) endM_ok rfl sc__law_web.nd rfl rfl (sw_true rfl rfl rfl (by decide +kernel)) (i_rng1 (by rfl) T.z_range (d_add (d_var (pv 2)) (d_var (pv 6)))) (blkOk_by (own := [("k", 10)]) (N := N__law_web) (sc := defScope s__law_web) (by decide +kernel)) (fun _ _ _ _ _ => (pg_name (i := 10) sc__law_web.nd rfl (by first | exact Or.inl rfl | exact Or.inr rfl))) (k_name (by decide)) (fun _ _ _ _ _ => ts_nil) (fun _ _ _ _ _ => (c_meth0 C_Web_place (hr.mono (by omega)) (d_var (pv 8)))))
    (s_cons (s_for PassesOwn.never rfl (i_rng1 (by rfl) T.z_range (d_var (pv 6))) (g_name (i := 10) sc__law_web.nd rfl (by first | exact Or.inl rfl | exact Or.inr rfl)) (s_one (s_drop (c_meth C_Web_drop (hr.mono (by omega)) (d_var (pv 8)) (a_cons (d_popAt (d_var (pv 9)) (c_call C__law_draw (hr.mono (by omega)) (a_cons (d_var (pv 0)) (a_cons (d_blt (call_len_seq.or call_len_str) p_len (by rfl) T.z_len (by decide +kernel) (a_cons (d_var (pv 9)) a_nil)) a_nil)))) a_nil)))))
    (s_cons (s_set (i := 11) sc__law_web.nd rfl (by first | exact Or.inl rfl | exact Or.inr rfl) (d_mut a_nil))
    (s_cons (s_for PassesOwn.never rfl (i_rng1 (by rfl) T.z_range (d_add (d_var (pv 3)) (d_var (pv 7)))) (g_name (i := 10) sc__law_web.nd rfl (by first | exact Or.inl rfl | exact Or.inr rfl)) (s_cons (s_set (i := 12) sc__law_web.nd rfl (by first | exact Or.inl rfl | exact Or.inr rfl) (c_call C__law_draw (hr.mono (by omega)) (a_cons (d_var (pv 0)) (a_cons (d_var (pv 2)) a_nil))))
    (s_cons (s_set (i := 13) sc__law_web.nd rfl (by first | exact Or.inl rfl | exact Or.inr rfl) (d_idx (d_lst (a_cons (c_call C__law_draw (hr.mono (by omega)) (a_cons (d_var (pv 0)) (a_cons (d_var (pv 2)) a_nil))) (a_cons (d_mod (d_add (d_var (pv 12)) d_int) (d_var (pv 2))) (a_cons (d_blt (call_min2 rfl) p_min2 (by rfl) T.z_min (by decide +kernel) (a_cons (d_add (d_var (pv 12)) (c_call C__law_draw (hr.mono (by omega)) (a_cons (d_var (pv 0)) (a_cons d_int a_nil)))) (a_cons (d_sub (d_var (pv 2)) d_int) a_nil))) a_nil)))) (d_var (pv 4))))
    (s_cons (s_set (i := 14) sc__law_web.nd rfl (by first | exact Or.inl rfl | exact Or.inr rfl) (d_idx (d_var (pv 1)) (c_call C__law_draw (hr.mono (by omega)) (a_cons (d_var (pv 0)) (a_cons d_int a_nil)))))
    (s_one (s_drop (d_append (d_var (pv 11)) (d_tup (a_cons (c_meth C_Web_tie (hr.mono (by omega)) (d_var (pv 8)) (a_cons (d_idx (d_var (pv 9)) (d_var (pv 12))) (a_cons (d_var (pv 14)) (a_cons (d_idx (d_var (pv 9)) (d_var (pv 13))) a_nil)))) (a_cons (d_idx (d_var (pv 9)) (d_var (pv 12))) (a_cons (d_var (pv 14)) (a_cons (d_idx (d_var (pv 9)) (d_var (pv 13))) a_nil))))))))))))
    (s_cons (s_for PassesOwn.never rfl (i_rng1 (by rfl) T.z_range (d_var (pv 7))) (g_name (i := 10) sc__law_web.nd rfl (by first | exact Or.inl rfl | exact Or.inr rfl)) (s_one (s_drop (c_meth C_Web_cut (hr.mono (by omega)) (d_var (pv 8)) (a_cons (d_idx (d_popAt (d_var (pv 11)) (c_call C__law_draw (hr.mono (by omega)) (a_cons (d_var (pv 0)) (a_cons (d_blt (call_len_seq.or call_len_str) p_len (by rfl) T.z_len (by decide +kernel) (a_cons (d_var (pv 11)) a_nil)) a_nil)))) d_int) a_nil)))))
    (s_one (s_ret (d_tup (a_cons (d_var (pv 8)) (a_cons (d_var (pv 9)) (a_cons (d_var (pv 11)) a_nil))))))))))))))))
abbrev s_Web_places : Stmt := inClass (topS 16) 6
abbrev N_Web_places : List Str := ["self"]
theorem sc_Web_places : FnScope N_Web_places ["self"] (defScope s_Web_places) := ⟨rfl, rfl, rfl, by decide +kernel, rfl, by decide +kernel, by decide +kernel⟩
theorem ok_Web_places (F : Fun K "places" "Web.places" s_Web_places f fd) (T : Txt K mg)   : FnOk P w K mg base CX0 1 f fd ["self"] (dSp K 1 sem_Web_places) :=
  sem_Web_places_eq ▸ fn_run F sc_Web_places fun cdv A outer s H EX hr =>
    (s_one (s_ret (d_sortQ rfl (by rfl) T.z_sorted (a_cons (d_fld (Classical.choice T.q_Web) (by simp) (d_var (pv 0))) a_nil))))
abbrev s_Web_stand : Stmt := inClass (topS 16) 12
abbrev N_Web_stand : List Str := ["self"]
theorem sc_Web_stand : FnScope N_Web_stand ["self"] (defScope s_Web_stand) := ⟨rfl, rfl, rfl, by decide +kernel, rfl, by decide +kernel, by decide +kernel⟩
theorem ok_Web_stand (F : Fun K "stand" "Web.stand" s_Web_stand f fd) (T : Txt K mg) (C_Web_ties : CalM P w K mg base 1 "Web" "ties" ["self"] sem_Web_ties) (C_Web_places : CalM P w K mg base 1 "Web" "places" ["self"] sem_Web_places)  : FnOk P w K mg base CX0 2 f fd ["self"] (dSp K 1 sem_Web_stand) :=
  sem_Web_stand_eq ▸ fn_run F sc_Web_stand fun cdv A outer s H EX hr =>
    (s_one (s_ret (d_tup (a_cons (c_meth0 C_Web_places (hr.mono (by omega)) (d_var (pv 0))) (a_cons (c_meth0 C_Web_ties (hr.mono (by omega)) (d_var (pv 0))) (a_cons (d_fld (Classical.choice T.q_Web) (by simp) (d_var (pv 0))) (a_cons (d_fld (Classical.choice T.q_Web) (by simp) (d_var (pv 0))) a_nil)))))))
abbrev s_Web_mark : Stmt := inClass (topS 16) 10
abbrev N_Web_mark : List Str := ["self"]
theorem sc_Web_mark : FnScope N_Web_mark ["self"] (defScope s_Web_mark) := ⟨rfl, rfl, rfl, by decide +kernel, rfl, by decide +kernel, by decide +kernel⟩
theorem ok_Web_mark (F : Fun K "mark" "Web.mark" s_Web_mark f fd) (T : Txt K mg) (C_Web_stand : CalM P w K mg base 2 "Web" "stand" ["self"] sem_Web_stand)  : FnOk P w K mg base CX0 3 f fd ["self"] (dSp K 1 sem_Web_mark) :=
  sem_Web_mark_eq ▸ fn_run F sc_Web_mark fun cdv A outer s H EX hr =>
    (s_cons (s_drop (d_append (d_fld (Classical.choice T.q_Web) (by simp) (d_var (pv 0))) (c_meth0 C_Web_stand (hr.mono (by omega)) (d_var (pv 0)))))
    (s_one (s_ret (d_sub (d_blt (call_len_seq.or call_len_str) p_len (by rfl) T.z_len (by decide +kernel) (a_cons (d_fld (Classical.choice T.q_Web) (by simp) (d_var (pv 0))) a_nil)) d_int))))
abbrev s_Web_put_back : Stmt := inClass (topS 16) 13
abbrev N_Web_put_back : List Str := ["self", "stand", "places", "ties", "place", "tie", "start", "name", "goal"]
theorem sc_Web_put_back : FnScope N_Web_put_back ["self", "stand"] (defScope s_Web_put_back) := ⟨rfl, rfl, rfl, by decide +kernel, rfl, by decide +kernel, by decide +kernel⟩
theorem ok_Web_put_back (F : Fun K "put_back" "Web.put_back" s_Web_put_back f fd) (T : Txt K mg)   : FnOk P w K mg base CX0 1 f fd ["self", "stand"] (dSp K 2 sem_Web_put_back) :=
  sem_Web_put_back_eq ▸ fn_run F sc_Web_put_back fun cdv A outer s H EX hr =>
    (s_cons (s_asg (d_var (pv 1)) (g_tup rfl (g_cons (g_name (i := 2) sc_Web_put_back.nd rfl (by first | exact Or.inl rfl | exact Or.inr rfl)) (g_cons (g_name (i := 3) sc_Web_put_back.nd rfl (by first | exact Or.inl rfl | exact Or.inr rfl)) (g_cons (g_fld (Classical.choice T.q_Web) (by simp) (d_var (pv 0))) (g_cons (g_fld (Classical.choice T.q_Web) (by simp) (d_var (pv 0))) g_nil))))))
    (s_cons (s_fld (Classical.choice T.q_Web) (by simp) (d_var (pv 0)) (d_dcomp (own := [("place", 4)]) (T := (nameT 4)) rfl sc_Web_put_back.nd (i_lst (d_var (pv 2))) (blkOk_by (own := [("place", 4)]) (N := N_Web_put_back) (sc := defScope s_Web_put_back) (by decide +kernel)) (fun _ _ _ _ _ => (pg_name (i := 4) sc_Web_put_back.nd rfl (by first | exact Or.inl rfl | exact Or.inr rfl))) (k_name (by decide)) (fun _ _ _ _ _ => ts_nil) (fun _ _ _ _ _ => (d_var (pv 4))) (fun _ _ _ _ _ => d_bl)))
    (s_one (s_fld (Classical.choice T.q_Web) (by simp) (d_var (pv 0)) (d_dcomp (own := [("tie", 5), ("start", 6), ("name", 7), ("goal", 8)]) (T := (tupT 4 (consT (nameT 5) (consT (nameT 6) (consT (nameT 7) (consT (nameT 8) nilT)))))) rfl sc_Web_put_back.nd (i_lst (d_var (pv 3))) (blkOk_by (own := [("tie", 5), ("start", 6), ("name", 7), ("goal", 8)]) (N := N_Web_put_back) (sc := defScope s_Web_put_back) (by decide +kernel)) (fun _ _ _ _ _ => (pg_tup rfl (pgs_cons (pg_name (i := 5) sc_Web_put_back.nd rfl (by first | exact Or.inl rfl | exact Or.inr rfl)) (pgs_cons (pg_name (i := 6) sc_Web_put_back.nd rfl (by first | exact Or.inl rfl | exact Or.inr rfl)) (pgs_cons (pg_name (i := 7) sc_Web_put_back.nd rfl (by first | exact Or.inl rfl | exact Or.inr rfl)) (pgs_cons (pg_name (i := 8) sc_Web_put_back.nd rfl (by first | exact Or.inl rfl | exact Or.inr rfl)) pgs_nil)))))) (k_tup (k_cons (by decide) (k_cons (by decide) (k_cons (by decide) (k_cons (by decide) k_nil))))) (fun _ _ _ _ _ => ts_nil) (fun _ _ _ _ _ => (d_var (pv 5))) (fun _ _ _ _ _ => (d_tup (a_cons (d_var (pv 6)) (a_cons (d_var (pv 7)) (a_cons (d_var (pv 8)) a_nil))))))))))
abbrev s_Web_undo : Stmt := inClass (topS 16) 11
abbrev N_Web_undo : List Str := ["self", "mark"]
theorem sc_Web_undo : FnScope N_Web_undo ["self", "mark"] (defScope s_Web_undo) := ⟨rfl, rfl, rfl, by decide +kernel, rfl, by decide +kernel, by decide +kernel⟩
theorem ok_Web_undo (F : Fun K "undo" "Web.undo" s_Web_undo f fd) (T : Txt K mg) (C_Web_put_back : CalM P w K mg base 1 "Web" "put_back" ["self", "stand"] sem_Web_put_back)  : FnOk P w K mg base CX0 2 f fd ["self", "mark"] (dSp K 2 sem_Web_undo) :=
  sem_Web_undo_eq ▸ fn_run F sc_Web_undo fun cdv A outer s H EX hr =>
    (s_cons (s_if (t_not (t_chain op_le op_lt (fun _ => q_le) q_lt d_int (d_var (pv 1)) (d_blt (call_len_seq.or call_len_str) p_len (by rfl) T.z_len (by decide +kernel) (a_cons (d_fld (Classical.choice T.q_Web) (by simp) (d_var (pv 0))) a_nil)))) (s_one s_bad) s_nil)
    (s_cons (s_drop (c_meth C_Web_put_back (hr.mono (by omega)) (d_var (pv 0)) (a_cons (d_idx (d_fld (Classical.choice T.q_Web) (by simp) (d_var (pv 0))) (d_var (pv 1))) a_nil)))
    (s_one (s_delF (d_fld (Classical.choice T.q_Web) (by simp) (d_var (pv 0))) (d_add (d_var (pv 1)) d_int)))))
abbrev s__law_coming : Stmt := topS 21
abbrev N__law_coming : List Str := ["net", "there", "own", "at", "spot", "tie"]
theorem sc__law_coming : FnScope N__law_coming ["net", "there", "own"] (defScope s__law_coming) := ⟨rfl, rfl, rfl, by decide +kernel, rfl, by decide +kernel, by decide +kernel⟩
theorem ok__law_coming (F : Fun K "_law_coming" "_law_coming" s__law_coming f fd) (T : Txt K mg) (C_Web_place : CalM P w K mg base 1 "Web" "place" ["self"] sem_Web_place) (C_Web_tie : CalM P w K mg base 2 "Web" "tie" ["self", "start", "name", "goal"] sem_Web_tie) (C_Web_mark : CalM P w K mg base 3 "Web" "mark" ["self"] sem_Web_mark) (C_Web_undo : CalM P w K mg base 2 "Web" "undo" ["self", "mark"] sem_Web_undo)  : FnOk P w K mg base CX0 4 f fd ["net", "there", "own"] (dSp K 3 sem__law_coming) :=
  sem__law_coming_eq ▸ fn_run F sc__law_coming fun cdv A outer s H EX hr =>
    (s_cons (s_set (i := 3) sc__law_coming.nd rfl (by first | exact Or.inl rfl | exact Or.inr rfl) (c_meth0 C_Web_mark (hr.mono (by omega)) (d_var (pv 0))))
    (s_cons (s_set (i := 4) sc__law_coming.nd rfl (by first | exact Or.inl rfl | exact Or.inr rfl) (d_ite (t_cmp op_lt q_lt (d_blt (call_len_seq.or call_len_str) p_len (by rfl) T.z_len (by decide +kernel) (a_cons (d_var (pv 1)) a_nil)) d_int (nomark _)) (c_meth0 C_Web_place (hr.mono (by omega)) (d_var (pv 0))) d_non))
    (s_cons (s_set (i := 5) sc__law_coming.nd rfl (by first | exact Or.inl rfl | exact Or.inr rfl) (d_ite (t_cmp op_lt q_lt (d_blt (call_len_seq.or call_len_str) p_len (by rfl) T.z_len (by decide +kernel) (a_cons (d_var (pv 2)) a_nil)) d_int (nomark _)) (c_meth C_Web_tie (hr.mono (by omega)) (d_var (pv 0)) (a_cons (d_idx (d_var (pv 1)) d_int) (a_cons d_str (a_cons (d_idx (d_var (pv 1)) d_int) a_nil)))) d_non))
    (s_cons (s_drop (c_meth C_Web_undo (hr.mono (by omega)) (d_var (pv 0)) (a_cons (d_var (pv 3)) a_nil)))
    (s_one (s_ret (d_lst (a_cons (d_add (d_var (pv 3)) d_int) (a_cons (d_var (pv 4)) (a_cons (d_var (pv 5)) a_nil))))))))))
abbrev s_Web_ends_of : Stmt := inClass (topS 16) 8
abbrev N_Web_ends_of : List Str := ["self", "tie"]
theorem sc_Web_ends_of : FnScope N_Web_ends_of ["self", "tie"] (defScope s_Web_ends_of) := ⟨rfl, rfl, rfl, by decide +kernel, rfl, by decide +kernel, by decide +kernel⟩
theorem ok_Web_ends_of (F : Fun K "ends_of" "Web.ends_of" s_Web_ends_of f fd) (T : Txt K mg) (C_Web__need_tie : CalM P w K mg base 1 "Web" "_need_tie" ["self", "tie"] sem_Web__need_tie)  : FnOk P w K mg base CX0 2 f fd ["self", "tie"] (dSp K 2 sem_Web_ends_of) :=
  sem_Web_ends_of_eq ▸ fn_run F sc_Web_ends_of fun cdv A outer s H EX hr =>
    (s_cons (s_drop (c_meth C_Web__need_tie (hr.mono (by omega)) (d_var (pv 0)) (a_cons (d_var (pv 1)) a_nil)))
    (s_one (s_ret (d_dget hr.units (d_fld (Classical.choice T.q_Web) (by simp) (d_var (pv 0))) (d_var (pv 1))))))
abbrev s_spelled : Stmt := topS 12
abbrev N_spelled : List Str := ["web", "steps", "letters", "tie", "side", "_", "name"]
theorem sc_spelled : FnScope N_spelled ["web", "steps"] (defScope s_spelled) := ⟨rfl, rfl, rfl, by decide +kernel, rfl, by decide +kernel, by decide +kernel⟩
theorem ok_spelled (F : Fun K "spelled" "spelled" s_spelled f fd) (T : Txt K mg) (C_Web_ends_of : CalM P w K mg base 2 "Web" "ends_of" ["self", "tie"] sem_Web_ends_of)  : FnOk P w K mg base CX0 3 f fd ["web", "steps"] (dSp K 2 sem_spelled) :=
  sem_spelled_eq ▸ fn_run F sc_spelled fun cdv A outer s H EX hr =>
    (s_cons (s_set (i := 2) sc_spelled.nd rfl (by first | exact Or.inl rfl | exact Or.inr rfl) (d_mut a_nil))
    (s_cons (s_for PassesOwn.never rfl (i_lst (d_var (pv 1))) (g_tup rfl (g_cons (g_name (i := 3) sc_spelled.nd rfl (by first | exact Or.inl rfl | exact Or.inr rfl)) (g_cons (g_name (i := 4) sc_spelled.nd rfl (by first | exact Or.inl rfl | exact Or.inr rfl)) g_nil))) (s_cons (s_asg (c_meth C_Web_ends_of (hr.mono (by omega)) (d_var (pv 0)) (a_cons (d_var (pv 3)) a_nil)) (g_tup rfl (g_cons (g_name (i := 5) sc_spelled.nd rfl (by first | exact Or.inl rfl | exact Or.inr rfl)) (g_cons (g_name (i := 6) sc_spelled.nd rfl (by first | exact Or.inl rfl | exact Or.inr rfl)) (g_cons (g_name (i := 5) sc_spelled.nd rfl (by first | exact Or.inl rfl | exact Or.inr rfl)) g_nil)))))
    (s_one (s_drop (d_append (d_var (pv 2)) (d_ite (t_cmp (op_eqA hr.units) q_eq (d_var (pv 4)) d_str (nomark _)) (d_var (pv 6)) (d_add d_str (d_var (pv 6)))))))))
    (s_one (s_ret (d_var (pv 2))))))
abbrev s__law_alike : Stmt := topS 24
abbrev N__law_alike : List Str := ["got", "due", "k"]
theorem sc__law_alike : FnScope N__law_alike ["got", "due"] (defScope s__law_alike) := ⟨rfl, rfl, rfl, by decide +kernel, rfl, by decide +kernel, by decide +kernel⟩
theorem step__law_alike {n : Nat} (F : Fun K "_law_alike" "_law_alike" s__law_alike f fd) (T : Txt K mg)   (C_self : Cal P w K mg base (1 + n) "_law_alike" ["got", "due"] (sem__law_alike n)) : FnOk P w K mg base CX0 (1 + n + 1) f fd ["got", "due"] (dSp K 2 (sem__law_alike (n + 1))) :=
  sem__law_alike_eq n ▸ fn_run F sc__law_alike fun cdv A outer s H EX hr =>
    (s_cons (s_if (t_tru (d_is2 .list .tuple (by rfl) T.z_isinstance (pe_bltn (by rfl) T.z_list (by decide +kernel) (show RelV (V.ty "list") (Value.type "list") from rfl)) (pe_bltn (by rfl) T.z_tuple (by decide +kernel) (show RelV (V.ty "tuple") (Value.type "tuple") from rfl)) (d_var (pv 1)))) (s_cons (s_if (t_w (w_or (t_not (t_tru (d_is2 .list .tuple (by rfl) T.z_isinstance (pe_bltn (by rfl) T.z_list (by decide +kernel) (show RelV (V.ty "list") (Value.type "list") from rfl)) (pe_bltn (by rfl) T.z_tuple (by decide +kernel) (show RelV (V.ty "tuple") (Value.type "tuple") from rfl)) (d_var (pv 0))))) (w_or1 (t_cmp (op_neA hr.units) q_ne (d_is .list (by rfl) T.z_isinstance (pe_bltn (by rfl) T.z_list (by decide +kernel) (show RelV (V.ty "list") (Value.type "list") from rfl)) (d_var (pv 0))) (d_is .list (by rfl) T.z_isinstance (pe_bltn (by rfl) T.z_list (by decide +kernel) (show RelV (V.ty "list") (Value.type "list") from rfl)) (d_var (pv 1))) (nomark _))))) (s_one (s_ret d_bl)) s_nil)
    (s_cons (s_if (t_cmp (op_neA hr.units) q_ne (d_blt (call_len_seq.or call_len_str) p_len (by rfl) T.z_len (by decide +kernel) (a_cons (d_var (pv 0)) a_nil)) (d_blt (call_len_seq.or call_len_str) p_len (by rfl) T.z_len (by decide +kernel) (a_cons (d_var (pv 1)) a_nil)) (nomark _)) (s_one (s_ret d_bl)) s_nil)
    (s_one (s_ret (d_blt (cr_all rfl) p_all (by rfl) T.z_all (by decide +kernel) (a_cons (d_comp (own := [("k", 2)]) (T := (nameT 2)) endL_ok rfl sc__law_alike.nd (i_rng1 (by rfl) T.z_range (d_blt (call_len_seq.or call_len_str) p_len (by rfl) T.z_len (by decide +kernel) (a_cons (d_var (pv 1)) a_nil))) (blkOk_by (own := [("k", 2)]) (N := N__law_alike) (sc := defScope s__law_alike) (by decide +kernel)) (fun _ _ _ _ _ => (pg_name (i := 2) sc__law_alike.nd rfl (by first | exact Or.inl rfl | exact Or.inr rfl))) (k_name (by decide)) (fun _ _ _ _ _ => ts_nil) (fun _ _ _ _ _ => (c_call C_self (hr.mono (by omega)) (a_cons (d_idx (d_var (pv 0)) (d_var (pv 2))) (a_cons (d_idx (d_var (pv 1)) (d_var (pv 2))) a_nil))))) a_nil)))))) s_nil)
    (s_cons (s_if (t_w (w_or (t_cmp (op_neA hr.units) q_ne (d_is .bool (by rfl) T.z_isinstance (pe_bltn (by rfl) T.z_bool (by decide +kernel) (show RelV (V.ty "bool") (Value.type "bool") from rfl)) (d_var (pv 0))) (d_is .bool (by rfl) T.z_isinstance (pe_bltn (by rfl) T.z_bool (by decide +kernel) (show RelV (V.ty "bool") (Value.type "bool") from rfl)) (d_var (pv 1))) (nomark _)) (w_or1 (t_cmp (op_neA hr.units) q_ne (d_is .int (by rfl) T.z_isinstance (pe_bltn (by rfl) T.z_int (by decide +kernel) (show RelV (V.ty "int") (Value.type "int") from rfl)) (d_var (pv 0))) (d_is .int (by rfl) T.z_isinstance (pe_bltn (by rfl) T.z_int (by decide +kernel) (show RelV (V.ty "int") (Value.type "int") from rfl)) (d_var (pv 1))) (nomark _))))) (s_one (s_ret d_bl)) s_nil)
    (s_one (s_ret (d_andV (d_cmp (op_eqA hr.units) q_eq (d_is .str (by rfl) T.z_isinstance (pe_bltn (by rfl) T.z_str (by decide +kernel) (show RelV (V.ty "str") (Value.type "str") from rfl)) (d_var (pv 0))) (d_is .str (by rfl) T.z_isinstance (pe_bltn (by rfl) T.z_str (by decide +kernel) (show RelV (V.ty "str") (Value.type "str") from rfl)) (d_var (pv 1))) (nomark _)) (d_one (d_cmp (op_eqA hr.units) q_eq (d_var (pv 0)) (d_var (pv 1)) (nomark _))))))))
noncomputable def cal__law_alike (F : Fun K "_law_alike" "_law_alike" s__law_alike f fd) (T : Txt K mg)   (g : mg "_law_alike" = some (.ref f)) (b : Binds K fd ["got", "due"] []) : ∀ n : Nat, Cal P w K mg base (1 + n) "_law_alike" ["got", "due"] (sem__law_alike n)
  | 0 => ⟨f, fd, none_ok, g, F.kp, b⟩
  | n + 1 => ⟨f, fd, step__law_alike F T   (cal__law_alike F T   g b n), g, F.kp, b⟩
abbrev s_law : Stmt := topS 25
abbrev N_law : List Str := ["script", "bag", "named", "turn", "way", "names", "spots", "ties", "net", "there", "own", "many", "some", "sides", "due", "first", "k", "handed", "got", "one"]
theorem sc_law : FnScope N_law ["script"] (defScope s_law) := ⟨rfl, rfl, rfl, by decide +kernel, rfl, by decide +kernel, by decide +kernel⟩
theorem ok_law (F : Fun K "law" "law" s_law f fd) (T : Txt K mg) (C__law_bag : Cal P w K mg base 1 "_law_bag" ["script"] sem__law_bag) (C__law_draw : Cal P w K mg base 2 "_law_draw" ["bag", "many"] sem__law_draw) (C__law_names : Cal P w K mg base 3 "_law_names" ["bag"] sem__law_names) (C_Web_ties : CalM P w K mg base 1 "Web" "ties" ["self"] sem_Web_ties) (C_Web_tie : CalM P w K mg base 2 "Web" "tie" ["self", "start", "name", "goal"] sem_Web_tie) (C__law_web : Cal P w K mg base 4 "_law_web" ["bag", "names", "many", "ties"] sem__law_web) (C__law_coming : Cal P w K mg base 4 "_law_coming" ["net", "there", "own"] sem__law_coming) (C_spelled : Cal P w K mg base 3 "spelled" ["web", "steps"] sem_spelled) (C__law_alike : Cal P w K mg base 5 "_law_alike" ["got", "due"] (sem__law_alike 4)) (W_spelled_steps_web_0 : KwB K C_spelled.fd ["web", "steps"] 0 ["steps", "web"] [1, 0]) : FnOk P w K mg base CX0 6 f fd ["script"] (dSp K 1 sem_law) :=
  sem_law_eq ▸ fn_run F sc_law fun cdv A outer s H EX hr =>
    (s_cons (s_set (i := 1) sc_law.nd rfl (by first | exact Or.inl rfl | exact Or.inr rfl) (c_call C__law_bag (hr.mono (by omega)) (a_cons (d_var (pv 0)) a_nil)))
    (s_cons (s_set (i := 2) sc_law.nd rfl (by first | exact Or.inl rfl | exact Or.inr rfl) (d_cmp (op_eqA hr.units) q_eq (c_call C__law_draw (hr.mono (by omega)) (a_cons (d_var (pv 1)) (a_cons d_int a_nil))) d_int (nomark _)))
    (s_cons (s_for PassesOwn.never rfl (i_rng1 (by rfl) T.z_range (d_add d_int (d_blt (call_min2 rfl) p_min2 (by rfl) T.z_min (by decide +kernel) (a_cons (d_div (d_blt (call_len_seq.or call_len_str) p_len (by rfl) T.z_len (by decide +kernel) (a_cons (d_var (pv 0)) a_nil)) d_int) (a_cons d_int a_nil))))) (g_name (i := 3) sc_law.nd rfl (by first | exact Or.inl rfl | exact Or.inr rfl)) (s_cons (s_set (i := 4) sc_law.nd rfl (by first | exact Or.inl rfl | exact Or.inr rfl) (c_call C__law_draw (hr.mono (by omega)) (a_cons (d_var (pv 1)) (a_cons d_int a_nil))))
    (s_cons (s_set (i := 5) sc_law.nd rfl (by first | exact Or.inl rfl | exact Or.inr rfl) (c_call C__law_names (hr.mono (by omega)) (a_cons (d_var (pv 1)) a_nil)))
    (s_cons (s_asg (d_idx (d_lst (a_cons (d_tup (a_cons d_int (a_cons d_int a_nil))) (a_cons (d_tup (a_cons d_int (a_cons d_int a_nil))) (a_cons (d_tup (a_cons d_int (a_cons d_int a_nil))) a_nil)))) (d_blt (call_max2 rfl) p_max2 (by rfl) T.z_max (by decide +kernel) (a_cons d_int (a_cons (d_sub (d_var (pv 4)) d_int) a_nil)))) (g_tup rfl (g_cons (g_name (i := 6) sc_law.nd rfl (by first | exact Or.inl rfl | exact Or.inr rfl)) (g_cons (g_name (i := 7) sc_law.nd rfl (by first | exact Or.inl rfl | exact Or.inr rfl)) g_nil))))
    (s_cons (s_asg (c_call C__law_web (hr.mono (by omega)) (a_cons (d_var (pv 1)) (a_cons (d_var (pv 5)) (a_cons (d_add d_int (c_call C__law_draw (hr.mono (by omega)) (a_cons (d_var (pv 1)) (a_cons (d_var (pv 6)) a_nil)))) (a_cons (c_call C__law_draw (hr.mono (by omega)) (a_cons (d_var (pv 1)) (a_cons (d_var (pv 7)) a_nil))) a_nil))))) (g_tup rfl (g_cons (g_name (i := 8) sc_law.nd rfl (by first | exact Or.inl rfl | exact Or.inr rfl)) (g_cons (g_name (i := 9) sc_law.nd rfl (by first | exact Or.inl rfl | exact Or.inr rfl)) (g_cons (g_name (i := 10) sc_law.nd rfl (by first | exact Or.inl rfl | exact Or.inr rfl)) g_nil)))))
    (s_cons (s_set (i := 11) sc_law.nd rfl (by first | exact Or.inl rfl | exact Or.inr rfl) (d_mul (c_call C__law_draw (hr.mono (by omega)) (a_cons (d_var (pv 1)) (a_cons (d_idx (d_lst (a_cons d_int (a_cons d_int (a_cons d_int a_nil)))) (d_mul (c_call C__law_draw (hr.mono (by omega)) (a_cons (d_var (pv 1)) (a_cons d_int a_nil))) (d_bty call_int1 p_toInt (by rfl) T.z_int (by decide +kernel) (a_cons (d_cmp op_gt q_gt (d_var (pv 4)) d_int (nomark _)) a_nil)))) a_nil))) (d_bty call_int1 p_toInt (by rfl) T.z_int (by decide +kernel) (a_cons (d_cmp (op_neA hr.units) q_ne (d_var (pv 10)) (d_lst a_nil) (nomark _)) a_nil))))
    (s_cons (s_set (i := 12) sc_law.nd rfl (by first | exact Or.inl rfl | exact Or.inr rfl) (d_comp (own := [("k", 16)]) (T := (nameT 16)) endL_ok rfl sc_law.nd (i_rng1 (by rfl) T.z_range (d_var (pv 11))) (blkOk_by (own := [("k", 16)]) (N := N_law) (sc := defScope s_law) (by decide +kernel)) (fun _ _ _ _ _ => (pg_name (i := 16) sc_law.nd rfl (by first | exact Or.inl rfl | exact Or.inr rfl))) (k_name (by decide)) (fun _ _ _ _ _ => ts_nil) (fun _ _ _ _ _ => (d_idx (d_var (pv 10)) (c_call C__law_draw (hr.mono (by omega)) (a_cons (d_var (pv 1)) (a_cons (d_blt (call_len_seq.or call_len_str) p_len (by rfl) T.z_len (by decide +kernel) (a_cons (d_var (pv 10)) a_nil)) a_nil)))))))
    (s_cons (s_set (i := 13) sc_law.nd rfl (by first | exact Or.inl rfl | exact Or.inr rfl) (d_comp (own := [("one", 19)]) (T := (nameT 19)) endL_ok rfl sc_law.nd (i_lst (d_var (pv 12))) (blkOk_by (own := [("one", 19)]) (N := N_law) (sc := defScope s_law) (by decide +kernel)) (fun _ _ _ _ _ => (pg_name (i := 19) sc_law.nd rfl (by first | exact Or.inl rfl | exact Or.inr rfl))) (k_name (by decide)) (fun _ _ _ _ _ => ts_nil) (fun _ _ _ _ _ => (d_idx (d_lst (a_cons d_str (a_cons d_str a_nil))) (c_call C__law_draw (hr.mono (by omega)) (a_cons (d_var (pv 1)) (a_cons d_int a_nil)))))))
    (s_cons (s_setComp (i := 4) (own := [("k", 16)]) (T := (nameT 16)) endL_ok rfl sc_law.nd rfl rfl (sw_true rfl rfl rfl (by decide +kernel)) (i_rng1 (by rfl) T.z_range (d_var (pv 11))) (blkOk_by (own := [("k", 16)]) (N := N_law) (sc := defScope s_law) (by decide +kernel)) (fun _ _ _ _ _ => (pg_name (i := 16) sc_law.nd rfl (by first | exact Or.inl rfl | exact Or.inr rfl))) (k_name (by decide)) (fun _ _ _ _ _ => ts_nil) (fun _ _ _ _ _ => (d_tup (a_cons (d_idx (d_idx (d_var (pv 12)) (d_var (pv 16))) d_int) (a_cons (d_idx (d_var (pv 13)) (d_var (pv 16))) a_nil)))))
    (s_cons (s_setComp (i := 14) (own := [("k", 16)]) (T := (nameT 16)) endL_ok rfl sc_law.nd rfl rfl (sw_true rfl rfl rfl (by decide +kernel)) (i_rng1 (by rfl) T.z_range (d_var (pv 11))) (blkOk_by (own := [("k", 16)]) (N := N_law) (sc := defScope s_law) (by decide +kernel)) (fun _ _ _ _ _ => (pg_name (i := 16) sc_law.nd rfl (by first | exact Or.inl rfl | exact Or.inr rfl))) (k_name (by decide)) (fun _ _ _ _ _ => ts_nil) (fun _ _ _ _ _ => (d_add (d_ite (t_cmp (op_eqA hr.units) q_eq (d_idx (d_var (pv 13)) (d_var (pv 16))) d_str (nomark _)) d_str d_str) (d_idx (d_idx (d_var (pv 12)) (d_var (pv 16))) d_int))))
    (s_cons (s_set (i := 15) sc_law.nd rfl (by first | exact Or.inl rfl | exact Or.inr rfl) (c_call C__law_coming (hr.mono (by omega)) (a_cons (d_var (pv 8)) (a_cons (d_var (pv 9)) (a_cons (d_var (pv 10)) a_nil)))))
    (s_cons (s_for PassesOwn.never rfl (i_rng1 (by rfl) T.z_range d_int) (g_name (i := 16) sc_law.nd rfl (by first | exact Or.inl rfl | exact Or.inr rfl)) (s_cons (s_set (i := 17) sc_law.nd rfl (by first | exact Or.inl rfl | exact Or.inr rfl) (d_list (by rfl) T.z_list (a_cons (d_var (pv 4)) a_nil)))
    (s_cons (s_set (i := 18) sc_law.nd rfl (by first | exact Or.inl rfl | exact Or.inr rfl) (d_ite (t_tru (d_var (pv 2))) (c_callK0 C_spelled (hr.mono (by omega)) W_spelled_steps_web_0 (kw_cons (d_var (pv 17)) (kw_cons (d_var (pv 8)) kw_nil))) (c_call C_spelled (hr.mono (by omega)) (a_cons (d_var (pv 8)) (a_cons (d_var (pv 17)) a_nil)))))
    (s_cons (s_if (t_w (w_or (t_not (t_tru (c_call C__law_alike (hr.mono (by omega)) (a_cons (d_var (pv 18)) (a_cons (d_var (pv 14)) a_nil))))) (w_or1 (t_cmp (op_neA hr.units) q_ne (d_var (pv 17)) (d_var (pv 4)) (nomark _))))) (s_one (s_ret d_bl)) s_nil)
    (s_cons (s_drop (d_append (d_var (pv 18)) d_str))
    (s_cons (s_if (t_w (w_and (t_cmp (op_eqA hr.units) q_eq (d_var (pv 16)) d_int (nomark _)) (w_and1 (t_cmp (op_neA hr.units) q_ne (c_call C__law_coming (hr.mono (by omega)) (a_cons (d_var (pv 8)) (a_cons (d_var (pv 9)) (a_cons (d_var (pv 10)) a_nil)))) (d_add (d_lst (a_cons (d_add (d_idx (d_var (pv 15)) d_int) d_int) a_nil)) (d_slice (d_var (pv 15)) (o_some d_int) o_none)) (nomark _))))) (s_one (s_ret d_bl)) s_nil)
    (s_one (s_if (t_w (w_and (t_cmp op_lt q_lt (d_blt (call_len_seq.or call_len_str) p_len (by rfl) T.z_len (by decide +kernel) (a_cons (d_var (pv 10)) a_nil)) d_int (nomark _)) (w_and (t_cmp (op_eqA hr.units) q_eq (d_var (pv 16)) d_int (nomark _)) (w_and1 (t_cmp (op_eqA hr.units) q_eq (c_call C__law_draw (hr.mono (by omega)) (a_cons (d_var (pv 1)) (a_cons d_int a_nil))) d_int (nomark _)))))) (s_one (s_drop (c_meth C_Web_tie (hr.mono (by omega)) (d_var (pv 8)) (a_cons (d_idx (d_var (pv 9)) d_int) (a_cons (d_idx (d_var (pv 5)) d_int) (a_cons (d_idx (d_var (pv 9)) (d_neg d_int)) a_nil)))))) s_nil))))))))
    (s_one (s_if (t_cmp (op_neA hr.units) q_ne (d_slice (c_meth0 C_Web_ties (hr.mono (by omega)) (d_var (pv 8))) o_none (o_some (d_blt (call_len_seq.or call_len_str) p_len (by rfl) T.z_len (by decide +kernel) (a_cons (d_var (pv 10)) a_nil)))) (d_var (pv 10)) (nomark _)) (s_one (s_ret d_bl)) s_nil))))))))))))))
    (s_one (s_ret d_bl)))))
end
end LW

set_option maxHeartbeats 2000000
namespace LW
open PySem PySem.Spec L2 DL
open PyProof.Rows hiding St

def Bag (b : Nat) (ms : MS) : Prop := ∃ (cs : List Int) (k c st q : Int), ms[b]? = some (.lst [.lst (cs.map .int), .int k, .int c, .int st, .int q]) ∧ 0 ≤ k ∧ 0 ≤ st ∧ st < 2147483647
structure Bg (b : Nat) (ms ms' : MS) : Prop where
  bag : Bag b ms'
  len : ms'.length = ms.length
  rest : ∀ n, n ≠ b → ms'[n]? = ms[n]?
theorem Bg.refl {b : Nat} {ms : MS} (h : Bag b ms) : Bg b ms ms := ⟨h, rfl, fun _ _ => rfl⟩
theorem Bg.trans {b : Nat} {m1 m2 m3 : MS} (h : Bg b m1 m2) (h' : Bg b m2 m3) : Bg b m1 m3 := ⟨h'.bag, h'.len.trans h.len, fun n hn => (h'.rest n hn).trans (h.rest n hn)⟩
theorem bag_lt {b : Nat} {ms : MS} {c : Cell} (h : ms[b]? = some c) : b < ms.length := (List.getElem?_eq_some_iff.mp h).1
theorem Bg.put {b : Nat} {m1 m2 : MS} (h : Bg b m1 m2) {c : Cell} (hc : Bag b (m2.set b c)) : Bg b m1 (m2.set b c) := ⟨hc, by rw [List.length_set]; exact h.len, fun n hn => by rw [List.getElem?_set_ne (Ne.symm hn)]; exact h.rest n hn⟩

theorem bag_cell {b : Nat} {ms : MS} (h : Bag b ms) : ∃ (cs : List Int) (k c st q : Int), ms[b]? = some (.lst [.lst (cs.map .int), .int k, .int c, .int st, .int q]) ∧ 0 ≤ k ∧ 0 ≤ st ∧ st < 2147483647 := h
theorem intBits_nn (i : Int) : (0 : Int) ≤ ((Builtin.Int.intBits i : Nat) : Int) := Int.natCast_nonneg _
theorem intBits_lt {i : Int} (h : i.natAbs < 2 ^ 200) : Builtin.Int.intBits i ≤ 200 := intBits_le h
theorem big8 {i : Int} (h : i.natAbs < 2 ^ 200) : i.natAbs < BIG8 := Nat.lt_of_lt_of_le h (by unfold BIG8; exact Nat.pow_le_pow_right (by decide) (by decide))
theorem stirred_ok {b : Nat} {ms : MS} {many : Int} (hb : Bag b ms) (hm : 0 < many) (hm2 : many < 1606938044258990275541962092341162602522202993782792835301376) : OK (sem__law_stirred [.ptr b, .int many] ms) fun d ms' => ∃ r, d = .int r ∧ 0 ≤ r ∧ r < many ∧ Bg b ms ms' := by
  have hbits := intBits_lt (i := many) (by omega)
  have c1 : (-4611686018427387904 : Int) ≤ 1 + ((Builtin.Int.intBits many : Nat) : Int) / 27 := by omega
  have c2 : 1 + ((Builtin.Int.intBits many : Nat) : Int) / 27 < 4611686018427387904 := by omega
  simp -implicitDefEqProofs [sem__law_stirred_eq, B__law_stirred, c1, c2]
  generalize hn : (1 + ((Builtin.Int.intBits many : Nat) : Int) / 27).toNat = n
  rw [bind_assoc]
  refine OK.bind (for_inv ((List.range n).map fun (k : Nat) => D.int (0 + (k : Int))) (fun _ env m => ∃ found e3, env = [some (.ptr b), some (.int many), some (.int found), e3] ∧ Bg b ms m) (fun _ _ => False) (fun _ _ => False)
    (fun i env m _ _ => rngNx_eq 0 n i) (fun i x env m hx hI => ?_) (n + 1) 0 _ ms (by simp) (by simp) ⟨0, none, rfl, .refl hb⟩) fun a m h => ?_
  · obtain ⟨found, e3, rfl, hB⟩ := hI
    obtain ⟨cs, k, c, st, q, h, h0, h1, h2⟩ := hB.bag
    have hl := bag_lt h
    have hs : st.natAbs < 1152921504606846976 := by omega
    have hset : ∀ c : Cell, (m.set b c)[b]? = some c := fun c => List.getElem?_set_self hl
    simp -implicitDefEqProofs [h, atI, ixN, hs, hset]
    exact hB.put ⟨cs, k, c, _, _, hset _, h0, by omega, by omega⟩
  · obtain ⟨fl, env⟩ := a
    cases fl with
    | nx =>
      rcases h with ⟨found, e3, rfl, hB⟩ | h
      · simp -implicitDefEqProofs [hm]
        exact ⟨Int.emod_nonneg _ (by omega), Int.emod_lt_of_pos _ hm, hB⟩
      · exact h.elim
    | brk => exact h.elim
    | cont => exact h.elim
    | ret d => exact h.elim
theorem draw_ok {b : Nat} {ms : MS} {many : Int} (hb : Bag b ms) (hm : 0 < many) (hm2 : many < 1606938044258990275541962092341162602522202993782792835301376) : OK (sem__law_draw [.ptr b, .int many] ms) fun d ms' => ∃ r, d = .int r ∧ 0 ≤ r ∧ r < many ∧ Bg b ms ms' := by
  obtain ⟨cs, k, c, st, q, h, h0, h1, h2⟩ := id hb
  have hl := bag_lt h
  have hset : ∀ c : Cell, (ms.set b c)[b]? = some c := fun c => List.getElem?_set_self hl
  have hmn : many.natAbs < BIG8 := big8 (by omega)
  have nn : ∀ z : Int, 0 ≤ z % many := fun z => Int.emod_nonneg _ (by omega)
  have lt : ∀ z : Int, z % many < many := fun z => Int.emod_lt_of_pos _ hm
  by_cases hc : c = 0
  · subst hc
    by_cases hk : k < cs.length
    · obtain ⟨j, rfl⟩ := Int.eq_ofNat_of_zero_le h0
      have hj : j < cs.length := by omega
      have e : sem__law_draw [.ptr b, .int many] ms = .ok (.int (cs[j] % many)) (ms.set b (.lst [.lst (cs.map .int), .int ((j : Int) + 1), .int (cs[j] / many), .int st, .int q])) := by
        simp -implicitDefEqProofs [sem__law_draw_eq, B__law_draw, h, atI, ixN, hset, hj, hm, hmn]
      exact ⟨_, _, e, _, rfl, nn _, lt _, (Bg.refl hb).put ⟨cs, _, _, st, q, hset _, by omega, h1, h2⟩⟩
    · have hk' : ¬ k < ((cs.length : Nat) : Int) := by omega
      obtain ⟨d, m, e, r, rfl, g1, g2, g3⟩ := stirred_ok hb hm hm2
      have e : sem__law_draw [.ptr b, .int many] ms = .ok (.int r) m := by
        simp -implicitDefEqProofs [sem__law_draw_eq, B__law_draw, h, atI, ixN, hk', e]
      exact ⟨_, _, e, _, rfl, g1, g2, g3⟩
  · have e : sem__law_draw [.ptr b, .int many] ms = .ok (.int (c % many)) (ms.set b (.lst [.lst (cs.map .int), .int k, .int (c / many), .int st, .int q])) := by
      simp -implicitDefEqProofs [sem__law_draw_eq, B__law_draw, h, atI, ixN, hset, hc, hm, hmn]
    exact ⟨_, _, e, _, rfl, nn _, lt _, (Bg.refl hb).put ⟨cs, k, _, st, q, hset _, h0, h1, h2⟩⟩
end LW

set_option maxHeartbeats 2000000
namespace LW
open PySem PySem.Spec L2 DL
open PyProof.Rows hiding St

/-! ### texts by their signs -/
abbrev ch (x : Str) : List Nat := x.cps.toList
theorem ch_len (x : Str) : x.length = (ch x).length := by simp [Str.length]
theorem ch_app (x y : Str) : ch (x ++ y) = ch x ++ ch y := by
  show (x.cps ++ y.cps).toList = _
  simp
theorem ch_ext {x y : Str} (h : ch x = ch y) : x = y := by
  cases x; cases y
  simp only [ch, Array.toList_inj] at h
  rw [h]
theorem ch_mk (l : List Nat) : ch ⟨l.toArray⟩ = l := rfl
theorem ch_cut (x : Str) (lo hi : Option Int) : ch (cutS x lo hi) = ((ch x).drop (HT.sIx x.length 0 lo)).take (HT.sIx x.length x.length hi - HT.sIx x.length 0 lo) := rfl
theorem ch_rev (x : Str) : ch (revS x) = (ch x).reverse := rfl
def Low (x : Str) : Prop := ∀ c ∈ ch x, 97 ≤ c ∧ c ≤ 122
structure Nm (x : Str) : Prop where
  low : Low x
  pos : 1 ≤ x.length
  le : x.length ≤ 8
instance (x : Str) : Decidable (Low x) := by unfold Low; infer_instance
theorem Nm.of {x : Str} (h : (decide (Low x) && decide (1 ≤ x.length) && decide (x.length ≤ 8)) = true) : Nm x := by
  simp only [Bool.and_eq_true, decide_eq_true_eq] at h
  exact ⟨h.1.1, h.1.2, h.2⟩
theorem low_sub {x y : Str} (h : Low x) (hs : ∀ c, c ∈ ch y → c ∈ ch x) : Low y := fun c hc => h c (hs c hc)
theorem low_cut {x : Str} (h : Low x) (lo hi : Option Int) : Low (cutS x lo hi) := low_sub h fun c hc => by
  rw [ch_cut] at hc
  exact List.mem_of_mem_drop (List.mem_of_mem_take hc)
theorem low_app {x y : Str} (h : Low x) (h' : Low y) : Low (x ++ y) := fun c hc => by
  rw [ch_app] at hc
  exact (List.mem_append.mp hc).elim (h c) (h' c)
theorem low_rev {x : Str} (h : Low x) : Low (revS x) := low_sub h fun c hc => by
  rw [ch_rev] at hc
  exact List.mem_reverse.mp hc
theorem join_len (ys : List Str) : ch (Txt.join "" ys) = (ys.map ch).flatten := by
  have g : Txt.join "" ys = Str.join "" ys := StrLaws.glued_eq_join "" ys
  rw [g]
  clear g
  induction ys with
  | nil => rfl
  | cons y ys ih =>
    cases ys with
    | nil => simp [Str.join]
    | cons z zs =>
      have : Str.join "" (y :: z :: zs) = y ++ "" ++ Str.join "" (z :: zs) := rfl
      rw [this, ch_app, ch_app, ih]
      have e : ch ("" : Str) = [] := by decide +kernel
      rw [e]
      simp

end LW

set_option maxHeartbeats 4000000
namespace LW
open PySem PySem.Spec L2 DL
open PyProof.Rows hiding St

def abc : Str := "abcdefghijklmnopqrstuvwxyz"
theorem ch_abc : ch abc = [97, 98, 99, 100, 101, 102, 103, 104, 105, 106, 107, 108, 109, 110, 111, 112, 113, 114, 115, 116, 117, 118, 119, 120, 121, 122] := by decide +kernel
def isN (x : Str) : Bool := decide ((1 : Int) ≤ x.length) && decide ((x.length : Int) ≤ 8) && (ch x).all fun c => decide (c ∈ ch abc)
theorem is_name_ok {x : Str} {ms : MS} (h : x.length ≤ 1000000) : sem_is_name [.str x] ms = .ok (.bl (isN x)) ms := by
  have h' : x.length ≤ 16777216 := by omega
  have e : compLoop (fun i _ => nxOf (some (x.cps.toList.map fun c => D.str ⟨#[c]⟩)) i) (stepOf (nameT 1) yesT (binE (varE 1) (cE c_SMALL_LETTERS) (inD false)) [some (.str x), none]) (x.cps.size + 1) 0 [] ms = .ok ((x.cps.toList.map fun c => D.str ⟨#[c]⟩).map fun d => match d with | .str y => .bl (decide (y.cps.getD 0 0 ∈ ch abc)) | d => d) ms := by
    refine comp_map (fun d => match d with | .str y => .bl (decide (y.cps.getD 0 0 ∈ ch abc)) | d => d) (fun i => rfl) (by simpa [Str.length] using h') (fun y hy => ?_) (by simp)
    obtain ⟨c, _, rfl⟩ := List.mem_map.mp hy
    simp -implicitDefEqProofs [c_SMALL_LETTERS]
    rfl
  have e2 : ((x.cps.toList.map fun c => D.str ⟨#[c]⟩).map fun d => match d with | .str y => D.bl (decide (y.cps.getD 0 0 ∈ ch abc)) | d => d) = ((ch x).map fun c => decide (c ∈ ch abc)).map D.bl := by
    rw [List.map_map, List.map_map]
    exact List.map_congr_left fun c _ => rfl
  rw [e2] at e
  by_cases h1 : (1 : Int) ≤ x.length
  · by_cases h2 : (x.length : Int) ≤ 8
    · simp -implicitDefEqProofs [sem_is_name_eq, B_is_name, h', h1, h2, c_LONGEST_NAME, e]
      simp [isN, h1, h2, List.all_map]
    · simp -implicitDefEqProofs [sem_is_name_eq, B_is_name, h', h1, h2, c_LONGEST_NAME]
      simp [isN, h1, h2]
  · simp -implicitDefEqProofs [sem_is_name_eq, B_is_name, h', h1, c_LONGEST_NAME]
    simp [isN, h1]
theorem isN_nm {x : Str} (h : Nm x) : isN x = true := by
  have h1 := h.pos
  have h2 := h.le
  simp only [isN, Bool.and_eq_true, decide_eq_true_eq, List.all_eq_true]
  refine ⟨⟨by omega, by omega⟩, fun c hc => ?_⟩
  have := h.low c hc
  rw [ch_abc]
  simp
  omega

end LW

set_option maxHeartbeats 4000000
namespace LW
open PySem PySem.Spec L2 DL
open PyProof.Rows hiding St

theorem cut63 {ns : List Int} (hl : ns.length ≤ 63) : DL.cutD (ns.map D.int) none (some 63) = ns.map D.int := by
  have h : (ns.map D.int).length = ns.length := List.length_map _
  unfold DL.cutD
  rw [h, HT.sIx_none, show (63 : Int) = ((63 : Nat) : Int) from rfl, HT.sIx_nat]
  have : min 63 ns.length - 0 = ns.length := by omega
  rw [List.drop_zero, this, List.take_of_length_le (by omega)]
theorem bag_ok {ns : List Int} {ms : MS} (hl : ns.length ≤ 63) : OK (sem__law_bag [.ro (ns.map D.int)] ms) fun d ms' => d = .ptr ms.length ∧ (∃ c, ms' = ms ++ [c]) ∧ Bag ms.length ms' := by
  have hz : ns.length ≤ 16777216 := by omega
  have hbig : (1000000000000000000000000000000000000000000000000000000000000 : Nat) < BIG6 := by unfold BIG6; decide +kernel
  -- the stirring
  obtain ⟨a1, m1, e1, h1⟩ := for_inv (nx := fun i _ => nxOf (some (ns.map D.int)) i) (turn := turnOf (nameT 2) (setS 1 (binE (binE (binE (binE (varE 1) (cE (.int 48271)) mulD) (binE (varE 2) (cE (.int 2147483629)) modD) addD) (cE (.int 1)) addD) (cE (.int 2147483647)) modD)))
    (ns.map D.int) (fun _ env m => ∃ st e, env = [some (.ro (ns.map D.int)), some (.int st), e] ∧ 0 ≤ st ∧ st < 2147483647 ∧ m = ms) (fun _ _ => False) (fun _ _ => False) (fun _ _ _ _ _ => rfl) (fun i x env m hx hI => by
      obtain ⟨st, e, rfl, s0, s1, rfl⟩ := hI
      obtain ⟨y, _, rfl⟩ := List.mem_map.mp (List.mem_of_getElem? hx)
      simp -implicitDefEqProofs
      omega) (ns.length + 1) 0 [some (.ro (ns.map D.int)), some (.int 23), none] ms (by simp) (by simp) ⟨23, none, rfl, by decide, by decide, rfl⟩
  obtain ⟨fl, env⟩ := a1
  cases fl with
  | brk => exact h1.elim
  | cont => exact h1.elim
  | ret d => exact h1.elim
  | nx =>
    rcases h1 with ⟨st, e, rfl, s0, s1, rfl⟩ | h1
    · have e2 : compLoop (fun i _ => nxOf (some (ns.map D.int)) i) (stepOf (nameT 2) yesT (binE (appE (consA (varE 2) nilA) absP) (binE (binE (cE (.int 10)) (cE (.int 60)) powD) (cE (.int 10)) powD) modD) [some (.ro (ns.map D.int)), some (.int st), none]) (ns.length + 1) 0 [] m1 = .ok ((ns.map D.int).map fun d => match d with | .int y => .int ((if y < 0 then -y else y) % ((10 : Int) ^ 60) ^ 10) | d => d) m1 := by
        refine comp_map _ (fun i => rfl) (by simpa using hz) (fun y hy => ?_) (by simp)
        obtain ⟨c, _, rfl⟩ := List.mem_map.mp hy
        simp -implicitDefEqProofs [hbig]
      have e3 : ((ns.map D.int).map fun d => match d with | .int y => D.int ((if y < 0 then -y else y) % ((10 : Int) ^ 60) ^ 10) | d => d) = (ns.map fun y => (if y < 0 then -y else y) % ((10 : Int) ^ 60) ^ 10).map D.int := by
        rw [List.map_map, List.map_map]
        exact List.map_congr_left fun c _ => rfl
      rw [e3] at e2
      generalize (ns.map fun y => (if y < 0 then -y else y) % ((10 : Int) ^ 60) ^ 10) = cs at e2
      have e4 : sem__law_bag [.ro (ns.map D.int)] m1 = .ok (.ptr m1.length) (m1 ++ [.lst [.lst (cs.map D.int), .int 0, .int 0, .int st, .int 0]]) := by
        simp -implicitDefEqProofs [sem__law_bag_eq, B__law_bag, cut63 hl, hz, e1, e2]
      refine ⟨_, _, e4, rfl, ⟨_, rfl⟩, cs, 0, 0, st, 0, ?_, by decide, s0, s1⟩
      rw [List.getElem?_append_right (Nat.le_refl _)]
      simp
    · exact h1.elim
end LW

set_option maxHeartbeats 4000000
namespace LW
open PySem PySem.Spec L2 DL
open PyProof.Rows hiding St

section
variable {ms : MS} {w a b c : Nat} {W : Web}
theorem places_ok (h : WebAt ms w a b c W) (k : StOk W.stand) : sem_Web_places [.ptr w] ms = .ok (.lst (W.ps.map D.int)) ms := by
  have e := rise_same k.pr
  have e' : rise W.ps = W.ps := e
  have f : W.ps.length ≤ 1000 := k.few.1
  simp -implicitDefEqProofs [sem_Web_places_eq, B_Web_places, h.o, h.p, keys_pl, e', f]
theorem ties_ok (h : WebAt ms w a b c W) (k : StOk W.stand) : sem_Web_ties [.ptr w] ms = .ok (.lst (W.ts.map tieD)) ms := by
  have e := rise_same k.tr
  have e' : rise (W.ts.map (·.1)) = W.ts.map (·.1) := e
  have f : W.ts.length ≤ 1000 := k.few.2
  have f2 : (W.ts.map (·.1)).length ≤ 1000 := by simpa using f
  have e1 : compLoop (fun i _ => nxOf (some ((W.ts.map (·.1)).map D.int)) i) (stepOf (nameT 1) yesT (appE (consA (varE 1) (starA (dgetE (fldE "Web" "_ties" (varE 0)) (varE 1)) nilA)) mkTup) [some (.ptr w), none]) (((W.ts.map (·.1)).map D.int).length + 1) 0 [] ms = .ok (W.ts.map tieD) ms := by
    refine comp_zip W.ts (fun t => D.int t.1) tieD (fun i => by rw [List.map_map]; rfl) (by show _ ≤ 16777216; omega) (fun t ht => ?_) (by simp)
    have v : valD (tiK W.ts) (.inl t.1) = some (endD t) := val_ti k.tr ht
    simp -implicitDefEqProofs [h.o, h.t, v, endD, tieD]
  simp -implicitDefEqProofs only [List.map_map, List.length_map] at e1
  simp -implicitDefEqProofs [sem_Web_ties_eq, B_Web_ties, h.o, h.t, keys_ti, e', f, e1]
theorem stand_ok (h : WebAt ms w a b c W) (k : StOk W.stand) : sem_Web_stand [.ptr w] ms = .ok (standD W.stand) ms := by
  simp -implicitDefEqProofs [sem_Web_stand_eq, B_Web_stand, h.o, places_ok h k, ties_ok h k, standD, Web.stand]
theorem set_at (n : Nat) (hn : n < ms.length) : ∀ x : Cell, (ms.set n x)[n]? = some x := fun x => List.getElem?_set_self hn
theorem lt_of {n : Nat} {x : Cell} (h : ms[n]? = some x) : n < ms.length := (List.getElem?_eq_some_iff.mp h).1
theorem mark_ok (h : WebAt ms w a b c W) (k : WOk W) : sem_Web_mark [.ptr w] ms = .ok (.int W.mks.length) (ms.set c (.lst ((W.mks ++ [W.stand]).map standD))) := by
  have hs := set_at c (lt_of h.m)
  have f : W.mks.length < 16777216 := by have := k.many; omega
  simp -implicitDefEqProofs [sem_Web_mark_eq, B_Web_mark, h.o, h.m, stand_ok h k.st, f, hs, List.getElem?_set_ne h.wc.symm]
  first | done | omega | skip
theorem need_place_ok (h : WebAt ms w a b c W) {p : Int} (hp : p ∈ W.ps) : sem_Web__need_place [.ptr w, .int p] ms = .ok .non ms := by
  simp -implicitDefEqProofs [sem_Web__need_place_eq, B_Web__need_place, h.o, h.p, val_pl, hp]
theorem need_tie_ok (h : WebAt ms w a b c W) (k : StOk W.stand) {t : Tie} (ht : t ∈ W.ts) : sem_Web__need_tie [.ptr w, .int t.1] ms = .ok .non ms := by
  have v : valD (tiK W.ts) (.inl t.1) = some (endD t) := val_ti k.tr ht
  simp -implicitDefEqProofs [sem_Web__need_tie_eq, B_Web__need_tie, h.o, h.t, v]
def atP (p : Int) (t : Tie) : Bool := decide (p = t.2.1) || decide (p = t.2.2.2)
theorem ties_at_ok (h : WebAt ms w a b c W) (k : StOk W.stand) {p : Int} (hp : p ∈ W.ps) : sem_Web_ties_at [.ptr w, .int p] ms = .ok (.lst ((W.ts.filter (atP p)).map fun t => .int t.1)) ms := by
  have f : W.ts.length ≤ 1000 := k.few.2
  have e1 : compLoop (fun i _ => nxOf (some (W.ts.map tieD)) i) (stepOf (tupT 4 (consT (nameT 2) (consT (nameT 3) (consT (nameT 4) (consT (nameT 5) nilT))))) (valT (binE (varE 1) (appE (consA (varE 3) (consA (varE 5) nilA)) mkTup) (inD false))) (varE 2) [some (.ptr w), some (.int p), none, none, none, none]) (W.ts.length + 1) 0 [] ms = .ok (W.ts.filterMap fun t => if atP p t = true then some (.int t.1) else none) ms := by
    refine comp_zipf W.ts tieD _ (fun i => rfl) (by show _ ≤ 16777216; omega) (fun t ht => ?_) (by simp)
    cases q : atP p t with
    | true =>
      have q' : hasD (.int p) [.int t.2.1, .int t.2.2.2] = true := by
        unfold atP at q
        simp only [Bool.or_eq_true, decide_eq_true_eq] at q
        simp [hasD, flV, eqV]
        rcases q with q | q
        · exact .inl q.symm
        · exact .inr q.symm
      simp -implicitDefEqProofs [tieD, flatD, q']
    | false =>
      have q' : hasD (.int p) [.int t.2.1, .int t.2.2.2] = false := by
        unfold atP at q
        simp only [Bool.or_eq_false_iff, decide_eq_false_iff_not] at q
        simp [hasD, flV, eqV]
        exact ⟨fun e => q.1 e.symm, fun e => q.2 e.symm⟩
      simp -implicitDefEqProofs [tieD, flatD, q']
  rw [filt_map] at e1
  have e2 : ∀ (n : Nat), n = W.ts.length + 1 → compLoop (fun i _ => nxOf (some (W.ts.map tieD)) i) (stepOf (tupT 4 (consT (nameT 2) (consT (nameT 3) (consT (nameT 4) (consT (nameT 5) nilT))))) (valT (binE (varE 1) (appE (consA (varE 3) (consA (varE 5) nilA)) mkTup) (inD false))) (varE 2) [some (.ptr w), some (.int p), none, none, none, none]) n 0 [] ms = .ok ((W.ts.filter (atP p)).map fun t => .int t.1) ms := fun n e => e ▸ e1
  simp -implicitDefEqProofs [sem_Web_ties_at_eq, B_Web_ties_at, h.o, need_place_ok h hp, ties_ok h k, e1]

/-- what is not among these cells stays -/
structure Fr (ms ms' : MS) (L : List Nat) : Prop where
  len : ms.length ≤ ms'.length
  at_ : ∀ n, n < ms.length → n ∉ L → ms'[n]? = ms[n]?
theorem Fr.refl {ms : MS} {L : List Nat} : Fr ms ms L := ⟨Nat.le_refl _, fun _ _ _ => rfl⟩
theorem Fr.trans {m1 m2 m3 : MS} {L L' : List Nat} (h : Fr m1 m2 L) (h' : Fr m2 m3 L') : Fr m1 m3 (L ++ L') :=
  ⟨Nat.le_trans h.len h'.len, fun n hn hL => by
    rw [List.mem_append, not_or] at hL
    rw [h'.at_ n (Nat.lt_of_lt_of_le hn h.len) hL.2, h.at_ n hn hL.1]⟩
theorem Fr.set {ms : MS} (n : Nat) (x : Cell) : Fr ms (ms.set n x) [n] := ⟨by simp, fun k _ hk => by rw [List.getElem?_set_ne]; simpa using fun e => hk (by simp [e])⟩
theorem Fr.push {ms : MS} (x : Cell) {L : List Nat} : Fr ms (ms ++ [x]) L := ⟨by simp, fun k hk _ => List.getElem?_append_left hk⟩
theorem place_ok (h : WebAt ms w a b c W) (k : StOk W.stand) (hf : (W.ps.length : Int) < W.mp) : sem_Web_place [.ptr w] ms = .ok (.int W.np) ((ms.set a (.dK (plK (W.ps ++ [W.np])))).set w (.obj "Web" (webF { W with np := W.np + 1 } a b c))) := by
  have f : W.ps.length ≤ 1000 := k.few.1
  have f16 : W.ps.length < 16777216 := by omega
  have hn : W.np ∉ W.ps := fun z => by have := (k.pl _ z).2; simp [Web.stand] at this
  have hl : (plK W.ps).length = W.ps.length := by simp [plK]
  have hm : ¬ W.mp ≤ (W.ps.length : Int) := by omega
  have hs := set_at (ms := ms) a (lt_of h.p)
  simp -implicitDefEqProofs [sem_Web_place_eq, B_Web_place, h.o, h.p, hl, hm, put_pl hn, List.getElem?_set_ne h.wa.symm, hs, f16]
theorem WebAt.place (h : WebAt ms w a b c W) (x : List Int) (y : Int) : WebAt ((ms.set a (.dK (plK x))).set w (.obj "Web" (webF { W with np := y } a b c))) w a b c { W with ps := x, np := y } where
  o := List.getElem?_set_self (by rw [List.length_set]; exact lt_of h.o)
  p := by rw [List.getElem?_set_ne h.wa]; exact List.getElem?_set_self (lt_of h.p)
  t := by rw [List.getElem?_set_ne h.wb, List.getElem?_set_ne h.ab]; exact h.t
  m := by rw [List.getElem?_set_ne h.wc, List.getElem?_set_ne h.ac]; exact h.m
  wa := h.wa
  wb := h.wb
  wc := h.wc
  ab := h.ab
  ac := h.ac
  bc := h.bc
theorem WebAt.tie (h : WebAt ms w a b c W) (x : List Tie) (y : Int) : WebAt ((ms.set b (.dK (tiK x))).set w (.obj "Web" (webF { W with nt := y } a b c))) w a b c { W with ts := x, nt := y } where
  o := List.getElem?_set_self (by rw [List.length_set]; exact lt_of h.o)
  p := by rw [List.getElem?_set_ne h.wa, List.getElem?_set_ne h.ab.symm]; exact h.p
  t := by rw [List.getElem?_set_ne h.wb]; exact List.getElem?_set_self (lt_of h.t)
  m := by rw [List.getElem?_set_ne h.wc, List.getElem?_set_ne h.bc]; exact h.m
  wa := h.wa
  wb := h.wb
  wc := h.wc
  ab := h.ab
  ac := h.ac
  bc := h.bc
theorem WebAt.drop (h : WebAt ms w a b c W) (x : List Int) : WebAt (ms.set a (.dK (plK x))) w a b c { W with ps := x } where
  o := by rw [List.getElem?_set_ne h.wa.symm]; exact h.o
  p := List.getElem?_set_self (lt_of h.p)
  t := by rw [List.getElem?_set_ne h.ab]; exact h.t
  m := by rw [List.getElem?_set_ne h.ac]; exact h.m
  wa := h.wa
  wb := h.wb
  wc := h.wc
  ab := h.ab
  ac := h.ac
  bc := h.bc
theorem WebAt.cut (h : WebAt ms w a b c W) (x : List Tie) : WebAt (ms.set b (.dK (tiK x))) w a b c { W with ts := x } where
  o := by rw [List.getElem?_set_ne h.wb.symm]; exact h.o
  p := by rw [List.getElem?_set_ne h.ab.symm]; exact h.p
  t := List.getElem?_set_self (lt_of h.t)
  m := by rw [List.getElem?_set_ne h.bc]; exact h.m
  wa := h.wa
  wb := h.wb
  wc := h.wc
  ab := h.ab
  ac := h.ac
  bc := h.bc
theorem WebAt.mark (h : WebAt ms w a b c W) (x : List Stand) : WebAt (ms.set c (.lst (x.map standD))) w a b c { W with mks := x } where
  o := by rw [List.getElem?_set_ne h.wc.symm]; exact h.o
  p := by rw [List.getElem?_set_ne h.ac.symm]; exact h.p
  t := by rw [List.getElem?_set_ne h.bc.symm]; exact h.t
  m := List.getElem?_set_self (lt_of h.m)
  wa := h.wa
  wb := h.wb
  wc := h.wc
  ab := h.ab
  ac := h.ac
  bc := h.bc
/-- it stands where all its cells do -/
theorem WebAt.keep {ms' : MS} (h : WebAt ms w a b c W) (hk : ∀ n, n = w ∨ n = a ∨ n = b ∨ n = c → ms'[n]? = ms[n]?) : WebAt ms' w a b c W :=
  ⟨by rw [hk w (.inl rfl)]; exact h.o, by rw [hk a (.inr (.inl rfl))]; exact h.p, by rw [hk b (.inr (.inr (.inl rfl)))]; exact h.t, by rw [hk c (.inr (.inr (.inr rfl)))]; exact h.m, h.wa, h.wb, h.wc, h.ab, h.ac, h.bc⟩
theorem tie_ok (h : WebAt ms w a b c W) (k : StOk W.stand) {p q : Int} {x : Str} (hp : p ∈ W.ps) (hq : q ∈ W.ps) (hx : Nm x) (hf : (W.ts.length : Int) < W.mt) :
    sem_Web_tie [.ptr w, .int p, .str x, .int q] ms = .ok (.int W.nt) ((ms.set b (.dK (tiK (W.ts ++ [(W.nt, p, x, q)])))).set w (.obj "Web" (webF { W with nt := W.nt + 1 } a b c))) := by
  have f : W.ts.length ≤ 1000 := k.few.2
  have f16 : W.ts.length < 16777216 := by omega
  have hn : W.nt ∉ W.ts.map (·.1) := fun z => by
    obtain ⟨t, ht, e⟩ := List.mem_map.mp z
    have := (k.tl t ht).2
    simp [Web.stand] at this
    omega
  have hl : (tiK W.ts).length = W.ts.length := by simp [tiK]
  have hm : ¬ W.mt ≤ (W.ts.length : Int) := by omega
  have hs := set_at (ms := ms) b (lt_of h.t)
  have hi := is_name_ok (x := x) (ms := ms) (by have := hx.le; omega)
  rw [isN_nm hx] at hi
  have hput : putD (tiK W.ts) (.inl W.nt) (.tup [.int p, .str x, .int q]) = tiK (W.ts ++ [(W.nt, p, x, q)]) := put_ti (t := (W.nt, p, x, q)) hn
  simp -implicitDefEqProofs [sem_Web_tie_eq, B_Web_tie, h.o, h.t, need_place_ok h hp, need_place_ok h hq, hi, hl, hm, hput, List.getElem?_set_ne h.wb.symm, hs, f16]
theorem cut_ok (h : WebAt ms w a b c W) (k : StOk W.stand) {t : Tie} (ht : t ∈ W.ts) : sem_Web_cut [.ptr w, .int t.1] ms = .ok .non (ms.set b (.dK (tiK (W.ts.filter fun s => decide (s.1 ≠ t.1))))) := by
  have v : valD (tiK W.ts) (.inl t.1) = some (endD t) := val_ti k.tr ht
  simp -implicitDefEqProofs [sem_Web_cut_eq, B_Web_cut, h.o, h.t, need_tie_ok h k ht, v, drop_ti]
theorem drop_ok (h : WebAt ms w a b c W) (k : StOk W.stand) {p : Int} (hp : p ∈ W.ps) (hf : W.ts.filter (atP p) = []) : sem_Web_drop [.ptr w, .int p] ms = .ok .non (ms.set a (.dK (plK (W.ps.filter fun q => decide (q ≠ p))))) := by
  have e := ties_at_ok h k hp
  rw [hf] at e
  simp -implicitDefEqProofs [sem_Web_drop_eq, B_Web_drop, h.o, h.p, e, val_pl, hp, drop_pl]

def intK : D → Key
  | .int i => .inl i
  | _ => .inl 0
def tupK : D → Key
  | .tup (.int i :: _) => .inl i
  | _ => .inl 0
def tupF : D → D × D
  | .tup (x :: r) => (x, .tup r)
  | d => (d, d)
/-- all that stands is put back -/
theorem put_back_ok (h : WebAt ms w a b c W) {s : Stand} (k : StOk s) :
    ∃ ms', sem_Web_put_back [.ptr w, standD s] ms = .ok .non ms' ∧ WebAt ms' w ms.length (ms.length + 1) c { W with ps := s.1, ts := s.2.1, np := s.2.2.1, nt := s.2.2.2 } ∧ Fr ms ms' [w] := by
  obtain ⟨ps, ts, np, nt⟩ := s
  have f1 : ps.length ≤ 1000 := k.few.1
  have f2 : ts.length ≤ 1000 := k.few.2
  have hw := lt_of h.o
  have hc := lt_of h.m
  obtain ⟨m1, hm1⟩ : ∃ m1 : MS, m1 = (ms.set w (.obj "Web" (webF { W with np := np } a b c))).set w (.obj "Web" (webF { W with np := np, nt := nt } a b c)) := ⟨_, rfl⟩
  have l1 : m1.length = ms.length := by rw [hm1]; simp
  have o1 : m1[w]? = some (.obj "Web" (webF { W with np := np, nt := nt } a b c)) := by rw [hm1]; exact List.getElem?_set_self (by rw [List.length_set]; exact hw)
  have hs1 := set_at (ms := ms) w hw
  -- the places
  have e1 : dcLoop (fun i _ => nxOf (some (ps.map D.int)) i) (stepOfD (nameT 4) yesT (varE 4) (cE (.bl true)) [some (.ptr w), some (.tup [.lst (ps.map D.int), .lst (ts.map tieD), .int np, .int nt]), some (.lst (ps.map D.int)), some (.lst (ts.map tieD)), none, none, none, none, none]) m1.length (ps.length + 1) 0 (m1 ++ [.dK []]) = .ok () (m1 ++ [.dK (plK ps)]) := by
    have z := dc_list (nx := fun i _ => nxOf (some (ps.map D.int)) i) (step := stepOfD (nameT 4) yesT (varE 4) (cE (.bl true)) [some (.ptr w), some (.tup [.lst (ps.map D.int), .lst (ts.map tieD), .int np, .int nt]), some (.lst (ps.map D.int)), some (.lst (ts.map tieD)), none, none, none, none, none]) (c := m1.length) (ms := m1 ++ [.dK []]) (ps.map D.int) (fun d => (d, .bl true)) intK (fun _ _ => rfl) (by simp)
      (fun d hd fs => by simp -implicitDefEqProofs) (fun d hd => by obtain ⟨i, _, rfl⟩ := List.mem_map.mp hd; rfl) (ps.length + 1) 0 [] (by simp) (by simp) (by show _ < 16777216; simp; omega)
    have q : (m1 ++ [Cell.dK []]).set m1.length (.dK []) = m1 ++ [.dK []] := by simp
    rw [q] at z
    rw [z, List.drop_zero, List.foldl_map]
    have y : ps.foldl (fun fs p => putD fs (intK (.int p)) (.bl true)) [] = plK ps := by
      exact (fold_put ps (fun p => p) (fun _ => D.bl true) [] (fun _ _ => rfl) (by rw [List.map_id']; exact k.pr)).trans (List.nil_append _)
    have y' : (m1 ++ [Cell.dK []]).set m1.length (.dK (plK ps)) = m1 ++ [.dK (plK ps)] := by simp
    rw [← y']
    exact congrArg _ (congrArg _ (congrArg _ y))
  obtain ⟨m2, hm2⟩ : ∃ m2 : MS, m2 = (m1 ++ [Cell.dK (plK ps)]).set w (.obj "Web" (webF { W with np := np, nt := nt } m1.length b c)) := ⟨_, rfl⟩
  have l2 : m2.length = m1.length + 1 := by rw [hm2]; simp
  have o1' : (m1 ++ [Cell.dK (plK ps)])[w]? = some (.obj "Web" (webF { W with np := np, nt := nt } a b c)) := by rw [List.getElem?_append_left (by omega)]; exact o1
  have o2 : m2[w]? = some (.obj "Web" (webF { W with np := np, nt := nt } m1.length b c)) := by rw [hm2]; exact List.getElem?_set_self (by simp; omega)
  -- the ties
  have e2 : dcLoop (fun i _ => nxOf (some (ts.map tieD)) i) (stepOfD (tupT 4 (consT (nameT 5) (consT (nameT 6) (consT (nameT 7) (consT (nameT 8) nilT))))) yesT (varE 5) (appE (consA (varE 6) (consA (varE 7) (consA (varE 8) nilA))) mkTup) [some (.ptr w), some (.tup [.lst (ps.map D.int), .lst (ts.map tieD), .int np, .int nt]), some (.lst (ps.map D.int)), some (.lst (ts.map tieD)), none, none, none, none, none]) m2.length (ts.length + 1) 0 (m2 ++ [.dK []]) = .ok () (m2 ++ [.dK (tiK ts)]) := by
    have z := dc_list (nx := fun i _ => nxOf (some (ts.map tieD)) i) (step := stepOfD (tupT 4 (consT (nameT 5) (consT (nameT 6) (consT (nameT 7) (consT (nameT 8) nilT))))) yesT (varE 5) (appE (consA (varE 6) (consA (varE 7) (consA (varE 8) nilA))) mkTup) [some (.ptr w), some (.tup [.lst (ps.map D.int), .lst (ts.map tieD), .int np, .int nt]), some (.lst (ps.map D.int)), some (.lst (ts.map tieD)), none, none, none, none, none]) (c := m2.length) (ms := m2 ++ [.dK []]) (ts.map tieD) tupF tupK (fun _ _ => rfl) (by simp)
      (fun d hd fs => by obtain ⟨t, _, rfl⟩ := List.mem_map.mp hd; simp -implicitDefEqProofs [tieD, tupF]) (fun d hd => by obtain ⟨t, _, rfl⟩ := List.mem_map.mp hd; rfl) (ts.length + 1) 0 [] (by simp) (by simp) (by show _ < 16777216; simp; omega)
    have q : (m2 ++ [Cell.dK []]).set m2.length (.dK []) = m2 ++ [.dK []] := by simp
    rw [q] at z
    rw [z, List.drop_zero, List.foldl_map]
    have y : ts.foldl (fun fs t => putD fs (tupK (tieD t)) (tupF (tieD t)).2) [] = tiK ts := by
      exact (fold_put ts (fun t => t.1) endD [] (fun _ _ => rfl) k.tr).trans (List.nil_append _)
    have y' : (m2 ++ [Cell.dK []]).set m2.length (.dK (tiK ts)) = m2 ++ [.dK (tiK ts)] := by simp
    rw [← y']
    exact congrArg _ (congrArg _ (congrArg _ y))
  have o2' : (m2 ++ [Cell.dK (tiK ts)])[w]? = some (.obj "Web" (webF { W with np := np, nt := nt } m1.length b c)) := by rw [List.getElem?_append_left (by omega)]; exact o2
  refine ⟨(m2 ++ [Cell.dK (tiK ts)]).set w (.obj "Web" (webF { W with np := np, nt := nt } m1.length m2.length c)), ?_, ?_, ?_⟩
  · have hm1' : (ms.set w (.obj "Web" (webF { W with np := np } a b c))).set w (.obj "Web" (webF { W with np := np, nt := nt } a b c)) = m1 := hm1.symm
    have e1' := e1
    simp -implicitDefEqProofs [sem_Web_put_back_eq, B_Web_put_back, standD, h.o, hs1, hm1', o1, e1, o1', ← hm2, o2, e2, o2']
  · rw [l2, l1]
    refine ⟨?_, ?_, ?_, ?_, by omega, by omega, h.wc, by omega, by omega, by omega⟩
    · exact List.getElem?_set_self (by simp; omega)
    · rw [List.getElem?_set_ne (by omega), List.getElem?_append_left (by omega), hm2, List.getElem?_set_ne (by omega), ← l1]
      simp
    · rw [List.getElem?_set_ne (by omega), ← l1, ← l2]
      simp
    · rw [List.getElem?_set_ne h.wc, List.getElem?_append_left (by omega), hm2, List.getElem?_set_ne h.wc, List.getElem?_append_left (by omega), hm1, List.getElem?_set_ne h.wc, List.getElem?_set_ne h.wc]
      exact h.m
  · refine ⟨by simp; omega, fun n hn hL => ?_⟩
    have hne : w ≠ n := fun e => hL (by simp [e])
    rw [List.getElem?_set_ne hne, List.getElem?_append_left (by omega), hm2, List.getElem?_set_ne hne, List.getElem?_append_left (by omega), hm1, List.getElem?_set_ne hne, List.getElem?_set_ne hne]
theorem undo_ok (h : WebAt ms w a b c W) (k : WOk W) {m : Nat} {s : Stand} (hm : W.mks[m]? = some s) :
    ∃ ms', sem_Web_undo [.ptr w, .int m] ms = .ok .non ms' ∧ WebAt ms' w ms.length (ms.length + 1) c { W with ps := s.1, ts := s.2.1, np := s.2.2.1, nt := s.2.2.2, mks := W.mks.take (m + 1) } ∧ Fr ms ms' [w, c] := by
  have hlt : m < W.mks.length := (List.getElem?_eq_some_iff.mp hm).1
  obtain ⟨m1, e1, h1, fr⟩ := put_back_ok h (k.mok s (List.mem_of_getElem? hm))
  have f := k.many
  have g1 : (0 : Int) ≤ (m : Int) := by omega
  have g2 : (m : Int) < (W.mks.length : Int) := by omega
  have g3 : atI (W.mks.map standD) (m : Int) = some (standD s) := by rw [atI_lit, List.getElem?_map, hm]; rfl
  have g4 : (W.mks.length) ≤ 16777216 := by omega
  refine ⟨m1.set c (.lst ((W.mks.take (m + 1)).map standD)), ?_, h1.mark _, (fr.trans (Fr.set c _))⟩
  have g5 : ((m : Int) + 1).toNat = m + 1 := by omega
  have g6 : (0 : Int) ≤ (m : Int) + 1 := by omega
  have g7 : (m : Int) + 1 ≤ (W.mks.length : Int) := by omega
  simp -implicitDefEqProofs [sem_Web_undo_eq, B_Web_undo, h.o, h.m, g2, g3, g4, e1, h1.o, h1.m, g5, g6, g7, List.map_take]
theorem init_ok (x y : Int) : ∃ ms', sem_Web___init__ [.ptr ms.length, .int x, .int y] (ms ++ [.obj "Web" []]) = .ok .non ms' ∧ WebAt ms' ms.length (ms.length + 1) (ms.length + 2) (ms.length + 3) ⟨x, y, [], [], 0, 0, []⟩ ∧ Fr ms ms' [] := by
  have q1 : ∀ (x y : Cell) (l : List Cell), (ms ++ x :: l).set ms.length y = ms ++ y :: l := fun x y l => by simp
  have q2 : ∀ (x : Cell) (l : List Cell), (ms ++ x :: l)[ms.length]? = some x := fun x l => by simp
  have n0 := str_ne (x := "_most_places") (y := "_most_ties") (by decide +kernel)
  have n1 := str_ne (x := "_most_places") (y := "_places") (by decide +kernel)
  have n2 := str_ne (x := "_most_ties") (y := "_places") (by decide +kernel)
  have n3 := str_ne (x := "_most_places") (y := "_ties") (by decide +kernel)
  have n4 := str_ne (x := "_most_ties") (y := "_ties") (by decide +kernel)
  have n5 := str_ne (x := "_places") (y := "_ties") (by decide +kernel)
  have n6 := str_ne (x := "_most_places") (y := "_next_place") (by decide +kernel)
  have n7 := str_ne (x := "_most_ties") (y := "_next_place") (by decide +kernel)
  have n8 := str_ne (x := "_places") (y := "_next_place") (by decide +kernel)
  have n9 := str_ne (x := "_ties") (y := "_next_place") (by decide +kernel)
  have n10 := str_ne (x := "_most_places") (y := "_next_tie") (by decide +kernel)
  have n11 := str_ne (x := "_most_ties") (y := "_next_tie") (by decide +kernel)
  have n12 := str_ne (x := "_places") (y := "_next_tie") (by decide +kernel)
  have n13 := str_ne (x := "_ties") (y := "_next_tie") (by decide +kernel)
  have n14 := str_ne (x := "_next_place") (y := "_next_tie") (by decide +kernel)
  have n15 := str_ne (x := "_most_places") (y := "_marks") (by decide +kernel)
  have n16 := str_ne (x := "_most_ties") (y := "_marks") (by decide +kernel)
  have n17 := str_ne (x := "_places") (y := "_marks") (by decide +kernel)
  have n18 := str_ne (x := "_ties") (y := "_marks") (by decide +kernel)
  have n19 := str_ne (x := "_next_place") (y := "_marks") (by decide +kernel)
  have n20 := str_ne (x := "_next_tie") (y := "_marks") (by decide +kernel)
  refine ⟨ms ++ [.obj "Web" (webF ⟨x, y, [], [], 0, 0, []⟩ (ms.length + 1) (ms.length + 2) (ms.length + 3)), .dK [], .dK [], .lst []], ?_, ?_, ?_⟩
  · simp -implicitDefEqProofs [sem_Web___init___eq, B_Web___init__, q1, q2, putFD, webF, n0, n1, n2, n3, n4, n5, n6, n7, n8, n9, n10, n11, n12, n13, n14, n15, n16, n17, n18, n19, n20]
  · refine ⟨by simp, ?_, ?_, ?_, by omega, by omega, by omega, by omega, by omega, by omega⟩
    · rw [List.getElem?_append_right (by omega)]; simp [plK]
    · rw [List.getElem?_append_right (by omega)]; simp [tiK]
    · rw [List.getElem?_append_right (by omega)]; simp
  · exact ⟨by simp, fun n hn _ => List.getElem?_append_left hn⟩
end
end LW

set_option maxHeartbeats 2000000
namespace LW
open PySem PySem.Spec L2 DL
open PyProof.Rows hiding St

theorem atI_map {α β : Type} (f : α → β) (l : List α) (i : Int) : atI (l.map f) i = (atI l i).map f := by
  unfold atI
  rw [List.length_map]
  cases ixN l.length i with
  | none => rfl
  | some j => simp
theorem OK_of {α : Type} {r : Res α} {a : α} {m : MS} {Q : α → MS → Prop} (h : r = .ok a m) (q : Q a m) : OK r Q := ⟨a, m, h, q⟩
/-- a stand within bounds: numbers below n, names of a kind -/
structure Sk (P : Str → Prop) (n mp mt : Int) (s : Stand) : Prop where
  st : StOk s
  nm : ∀ t ∈ s.2.1, P t.2.2.1
  np : s.2.2.1 ≤ n
  nt : s.2.2.2 ≤ n
  lp : (s.1.length : Int) ≤ mp
  lt : (s.2.1.length : Int) ≤ mt
section
variable {P : Str → Prop} {n mp mt : Int} {ps : List Int} {ts : List Tie} {np nt : Int}
theorem Sk.mono {n' : Int} {s : Stand} (h : Sk P n mp mt s) (hn : n ≤ n') : Sk P n' mp mt s := ⟨h.st, h.nm, by have := h.np; omega, by have := h.nt; omega, h.lp, h.lt⟩
theorem Sk.new (h0 : 0 ≤ n) (h1 : 0 ≤ mp) (h2 : 0 ≤ mt) : Sk P n mp mt ([], [], 0, 0) :=
  ⟨⟨.nil, (fun _ h => nomatch h), .nil, (fun _ h => nomatch h), (fun _ h => nomatch h), Int.le_refl 0, Int.le_refl 0, by simp⟩, (fun _ h => nomatch h), h0, h0, h1, h2⟩
theorem Sk.place (h : Sk P n mp mt (ps, ts, np, nt)) (hl : (ps.length : Int) < mp) (hm : mp ≤ 1000) : Sk P (n + 1) mp mt (ps ++ [np], ts, np + 1, nt) := by
  obtain ⟨⟨pr, pl, tr, tl, te, n0, t0, few⟩, nm, hnp, hnt, lp, lt⟩ := h
  refine ⟨⟨?_, ?_, tr, tl, ?_, ?_, t0, ?_⟩, nm, ?_, ?_, ?_, lt⟩
  · rw [List.pairwise_append]
    exact ⟨pr, by simp, fun a ha b hb => by have := (pl a ha).2; simp at hb; subst hb; exact this⟩
  · intro p hp
    rcases List.mem_append.mp hp with z | z
    · have := pl p z; simp only at this ⊢; omega
    · have : p = np := by simpa using z
      simp only at n0 ⊢; omega
  · intro t ht
    have := te t ht
    exact ⟨List.mem_append_left _ this.1, List.mem_append_left _ this.2⟩
  · simp only at n0 ⊢; omega
  · simp only at few ⊢; simp; omega
  · simp only at hnp ⊢; omega
  · simp only at hnt ⊢; omega
  · simp; omega
theorem Sk.tie {p q : Int} {x : Str} (h : Sk P n mp mt (ps, ts, np, nt)) (hp : p ∈ ps) (hq : q ∈ ps) (hx : P x) (hl : (ts.length : Int) < mt) (hm : mt ≤ 1000) : Sk P (n + 1) mp mt (ps, ts ++ [(nt, p, x, q)], np, nt + 1) := by
  obtain ⟨⟨pr, pl, tr, tl, te, n0, t0, few⟩, nm, hnp, hnt, lp, lt⟩ := h
  refine ⟨⟨pr, pl, ?_, ?_, ?_, n0, ?_, ?_⟩, ?_, ?_, ?_, lp, ?_⟩
  · rw [List.map_append, List.pairwise_append]
    refine ⟨tr, by simp, fun a ha b hb => ?_⟩
    obtain ⟨t, ht, rfl⟩ := List.mem_map.mp ha
    have := (tl t ht).2
    simp at hb
    subst hb
    exact this
  · intro t ht
    rcases List.mem_append.mp ht with z | z
    · have := tl t z; simp only at this ⊢; omega
    · have : t = (nt, p, x, q) := by simpa using z
      subst this
      simp only at t0 ⊢; omega
  · intro t ht
    rcases List.mem_append.mp ht with z | z
    · exact te t z
    · have : t = (nt, p, x, q) := by simpa using z
      subst this
      exact ⟨hp, hq⟩
  · simp only at t0 ⊢; omega
  · simp only at few ⊢; simp; omega
  · intro t ht
    rcases List.mem_append.mp ht with z | z
    · exact nm t z
    · have : t = (nt, p, x, q) := by simpa using z
      subst this
      exact hx
  · simp only at hnp ⊢; omega
  · simp only at hnt ⊢; omega
  · simp; omega
theorem Sk.cut (h : Sk P n mp mt (ps, ts, np, nt)) (f : Tie → Bool) : Sk P n mp mt (ps, ts.filter f, np, nt) := by
  obtain ⟨⟨pr, pl, tr, tl, te, n0, t0, few⟩, nm, hnp, hnt, lp, lt⟩ := h
  have hs : (ts.filter f).Sublist ts := List.filter_sublist
  have hl := hs.length_le
  exact ⟨⟨pr, pl, tr.sublist (hs.map _), fun t ht => tl t (hs.mem ht), fun t ht => te t (hs.mem ht), n0, t0, by simp only at few ⊢; omega⟩, fun t ht => nm t (hs.mem ht), hnp, hnt, lp, by simp only at lt ⊢; omega⟩
theorem Sk.drop {p : Int} (h : Sk P n mp mt (ps, ts, np, nt)) (hf : ∀ t ∈ ts, t.2.1 ≠ p ∧ t.2.2.2 ≠ p) : Sk P n mp mt (ps.filter fun q => decide (q ≠ p), ts, np, nt) := by
  obtain ⟨⟨pr, pl, tr, tl, te, n0, t0, few⟩, nm, hnp, hnt, lp, lt⟩ := h
  have hs : (ps.filter fun q => decide (q ≠ p)).Sublist ps := List.filter_sublist
  have hl := hs.length_le
  refine ⟨⟨pr.sublist hs, fun q hq => pl q (hs.mem hq), tr, tl, fun t ht => ?_, n0, t0, by simp only at few ⊢; omega⟩, nm, hnp, hnt, by simp only at lp ⊢; omega, lt⟩
  have h1 := te t ht
  have h2 := hf t ht
  exact ⟨List.mem_filter.mpr ⟨h1.1, by simpa using h2.1⟩, List.mem_filter.mpr ⟨h1.2, by simpa using h2.2⟩⟩
end
section
variable {A B F : SF} {env : DL.Env} {ms ms1 : MS} {t : DL.Env → MS → Res Bool} {Q : (Fl × DL.Env) → MS → Prop}
/-- an if whose suite ends the def -/
theorem seq_if_ret {b : Bool} (ht : t env ms = .ok b ms1) (h1 : b = true → OK (F env ms1) fun a m => (∃ d e, a = (.ret d, e)) ∧ Q a m) (h2 : b = false → OK (B env ms1) Q) : OK (seqS (ifS t F skipS) B env ms) Q := by
  unfold seqS ifS
  rw [ht]
  simp only [bind_ok]
  cases b with
  | true =>
    obtain ⟨a, m, e, ⟨d, e', rfl⟩, q⟩ := h1 rfl
    rw [if_pos rfl, e]
    exact ⟨_, _, rfl, q⟩
  | false =>
    rw [if_neg Bool.false_ne_true]
    exact h2 rfl
/-- a step whose outcome is known -/
theorem seq_nx {env' : DL.Env} (hA : A env ms = .ok (.nx, env') ms1) (hB : OK (B env' ms1) Q) : OK (seqS A B env ms) Q := by
  unfold seqS
  rw [hA]
  exact hB
theorem andT_eq {f g : DL.Env → MS → Res Bool} {b1 b2 : Bool} (h1 : f env ms = .ok b1 ms) (h2 : g env ms = .ok b2 ms) : andT f g env ms = .ok (b1 && b2) ms := by
  unfold andT
  rw [h1]
  cases b1 with
  | true => simpa using h2
  | false => rfl
end
end LW

set_option maxHeartbeats 4000000
namespace LW
open PySem PySem.Spec L2 DL
open PyProof.Rows hiding St

/-- a web, beside cells that it does not touch -/
structure Gw (P : List Nat) (n u v : Int) (m : MS) (w : Nat) (W : Web) : Prop where
  at_ : ∃ a b c, WebAt m w a b c W ∧ ∀ q ∈ P, q < m.length ∧ q ≠ w ∧ q ≠ a ∧ q ≠ b ∧ q ≠ c
  s : Sk Nm n u v W.stand
  mks : ∀ s ∈ W.mks, StOk s
  many : W.mks.length ≤ 5000
  mp : W.mp = u
  mt : W.mt = v
  small : u ≤ 1000 ∧ v ≤ 1000
/-- those cells stay -/
structure St' (P : List Nat) (m m' : MS) : Prop where
  len : m.length ≤ m'.length
  same : ∀ q ∈ P, m'[q]? = m[q]?
section
variable {P : List Nat} {n mp mt : Int} {m m' : MS} {w : Nat} {W : Web}
theorem St'.refl : St' P m m := ⟨Nat.le_refl _, fun _ _ => rfl⟩
theorem St'.trans {m2 m3 : MS} (h : St' P m m2) (h' : St' P m2 m3) : St' P m m3 := ⟨Nat.le_trans h.len h'.len, fun q hq => (h'.same q hq).trans (h.same q hq)⟩
theorem St'.sub {P' : List Nat} (h : St' P m m') (hs : ∀ q ∈ P', q ∈ P) : St' P' m m' := ⟨h.len, fun q hq => h.same q (hs q hq)⟩
theorem St'.at (h : St' P m m') {q : Nat} (hq : q ∈ P) {x : Cell} (e : m[q]? = some x) : m'[q]? = some x := (h.same q hq).trans e
theorem St'.bag (h : St' P m m') (hq : 0 ∈ P) (b : Bag 0 m) : Bag 0 m' := by
  obtain ⟨cs, k, c, st, q, e, r⟩ := b
  exact ⟨cs, k, c, st, q, by rw [h.same 0 hq]; exact e, r⟩
theorem Gw.wok (h : Gw P n mp mt m w W) : WOk W := ⟨h.s.st, h.mks, by have := h.many; omega⟩
theorem Gw.mono {n' : Int} (h : Gw P n mp mt m w W) (hn : n ≤ n') : Gw P n' mp mt m w W := ⟨h.at_, h.s.mono hn, h.mks, h.many, h.mp, h.mt, h.small⟩
theorem Gw.sub {P' : List Nat} (h : Gw P n mp mt m w W) (hs : ∀ q ∈ P', q ∈ P) : Gw P' n mp mt m w W := by
  obtain ⟨a, b, c, hw, hp⟩ := h.at_
  exact ⟨⟨a, b, c, hw, fun q hq => hp q (hs q hq)⟩, h.s, h.mks, h.many, h.mp, h.mt, h.small⟩
/-- another thing happened, not to the web -/
theorem Gw.keep (h : Gw P n mp mt m w W) (hl : m.length ≤ m'.length) (hk : ∀ q, q < m.length → q ∉ P → m'[q]? = m[q]?) : Gw P n mp mt m' w W := by
  obtain ⟨a, b, c, hw, hp⟩ := h.at_
  refine ⟨⟨a, b, c, hw.keep fun k hz => ?_, fun q hq => ⟨Nat.lt_of_lt_of_le (hp q hq).1 hl, (hp q hq).2⟩⟩, h.s, h.mks, h.many, h.mp, h.mt, h.small⟩
  refine hk k ?_ fun z => ?_
  · rcases hz with rfl | rfl | rfl | rfl
    · exact lt_of hw.o
    · exact lt_of hw.p
    · exact lt_of hw.t
    · exact lt_of hw.m
  · have := (hp k z).2
    omega
theorem Gw.draw (h : Gw P n mp mt m w W) (h0 : 0 ∈ P) (B : Bg 0 m m') : Gw P n mp mt m' w W :=
  h.keep (by rw [B.len]; exact Nat.le_refl _) fun q _ hq => B.rest q fun e => hq (e ▸ h0)
theorem Gw.set (h : Gw P n mp mt m w W) {q : Nat} (hq : q ∈ P) (x : Cell) : Gw P n mp mt (m.set q x) w W :=
  h.keep (by simp) fun k _ hk => List.getElem?_set_ne (by intro e; subst e; exact hk hq)
theorem Gw.push (h : Gw P n mp mt m w W) (x : Cell) : Gw (m.length :: P) n mp mt (m ++ [x]) w W := by
  obtain ⟨a, b, c, hw, hp⟩ := h.at_
  have l0 := lt_of hw.o
  have l1 := lt_of hw.p
  have l2 := lt_of hw.t
  have l3 := lt_of hw.m
  refine ⟨⟨a, b, c, hw.keep fun k hz => List.getElem?_append_left (by omega), fun q hq => ?_⟩, h.s, h.mks, h.many, h.mp, h.mt, h.small⟩
  rcases List.mem_cons.mp hq with rfl | z
  · exact ⟨by simp, by omega, by omega, by omega, by omega⟩
  · have := hp q z
    exact ⟨by simp; omega, this.2⟩
theorem Gw.place (h : Gw P n mp mt m w W) (hl : (W.ps.length : Int) < mp) : ∃ m', sem_Web_place [.ptr w] m = .ok (.int W.np) m' ∧ Gw P (n + 1) mp mt m' w { W with ps := W.ps ++ [W.np], np := W.np + 1 } ∧ St' P m m' := by
  obtain ⟨a, b, c, hw, hp⟩ := h.at_
  refine ⟨_, place_ok hw h.s.st (by rw [h.mp]; exact hl), ⟨⟨a, b, c, hw.place _ _, fun q hq => ⟨by simp; exact (hp q hq).1, (hp q hq).2⟩⟩, Sk.place (ps := W.ps) (ts := W.ts) (np := W.np) (nt := W.nt) h.s hl h.small.1, h.mks, h.many, h.mp, h.mt, h.small⟩, ⟨by simp, fun q hq => ?_⟩⟩
  have := hp q hq
  rw [List.getElem?_set_ne (by omega), List.getElem?_set_ne (by omega)]
theorem Gw.tie (h : Gw P n mp mt m w W) {p q : Int} {x : Str} (hp' : p ∈ W.ps) (hq' : q ∈ W.ps) (hx : Nm x) (hl : (W.ts.length : Int) < mt) :
    ∃ m', sem_Web_tie [.ptr w, .int p, .str x, .int q] m = .ok (.int W.nt) m' ∧ Gw P (n + 1) mp mt m' w { W with ts := W.ts ++ [(W.nt, p, x, q)], nt := W.nt + 1 } ∧ St' P m m' := by
  obtain ⟨a, b, c, hw, hp⟩ := h.at_
  refine ⟨_, tie_ok hw h.s.st hp' hq' hx (by rw [h.mt]; exact hl), ⟨⟨a, b, c, hw.tie _ _, fun q hq => ⟨by simp; exact (hp q hq).1, (hp q hq).2⟩⟩, Sk.tie (ps := W.ps) (ts := W.ts) (np := W.np) (nt := W.nt) h.s hp' hq' hx hl h.small.2, h.mks, h.many, h.mp, h.mt, h.small⟩, ⟨by simp, fun q hq => ?_⟩⟩
  have := hp q hq
  rw [List.getElem?_set_ne (by omega), List.getElem?_set_ne (by omega)]
theorem Gw.cut (h : Gw P n mp mt m w W) {t : Tie} (ht : t ∈ W.ts) : ∃ m', sem_Web_cut [.ptr w, .int t.1] m = .ok .non m' ∧ Gw P n mp mt m' w { W with ts := W.ts.filter fun s => decide (s.1 ≠ t.1) } ∧ St' P m m' := by
  obtain ⟨a, b, c, hw, hp⟩ := h.at_
  refine ⟨_, cut_ok hw h.s.st ht, ⟨⟨a, b, c, hw.cut _, fun q hq => ⟨by simp; exact (hp q hq).1, (hp q hq).2⟩⟩, Sk.cut (ps := W.ps) (ts := W.ts) (np := W.np) (nt := W.nt) h.s _, h.mks, h.many, h.mp, h.mt, h.small⟩, ⟨by simp, fun q hq => ?_⟩⟩
  have := hp q hq
  rw [List.getElem?_set_ne (by omega)]
theorem at_none {p : Int} {ts : List Tie} (hf : ts.filter (atP p) = []) : ∀ t ∈ ts, t.2.1 ≠ p ∧ t.2.2.2 ≠ p := fun t ht => by
  have : atP p t = false := by
    cases q : atP p t with
    | false => rfl
    | true => have := List.mem_filter.mpr ⟨ht, q⟩; rw [hf] at this; cases this
  unfold atP at this
  simp only [Bool.or_eq_false_iff, decide_eq_false_iff_not] at this
  exact ⟨fun e => this.1 e.symm, fun e => this.2 e.symm⟩
theorem Gw.drop (h : Gw P n mp mt m w W) {p : Int} (hp' : p ∈ W.ps) (hf : W.ts.filter (atP p) = []) : ∃ m', sem_Web_drop [.ptr w, .int p] m = .ok .non m' ∧ Gw P n mp mt m' w { W with ps := W.ps.filter fun q => decide (q ≠ p) } ∧ St' P m m' := by
  obtain ⟨a, b, c, hw, hp⟩ := h.at_
  refine ⟨_, drop_ok hw h.s.st hp' hf, ⟨⟨a, b, c, hw.drop _, fun q hq => ⟨by simp; exact (hp q hq).1, (hp q hq).2⟩⟩, Sk.drop (ps := W.ps) (ts := W.ts) (np := W.np) (nt := W.nt) h.s (at_none hf), h.mks, h.many, h.mp, h.mt, h.small⟩, ⟨by simp, fun q hq => ?_⟩⟩
  have := hp q hq
  rw [List.getElem?_set_ne (by omega)]
theorem Gw.mark (h : Gw P n mp mt m w W) (hm : W.mks.length < 5000) : ∃ m', sem_Web_mark [.ptr w] m = .ok (.int W.mks.length) m' ∧ Gw P n mp mt m' w { W with mks := W.mks ++ [W.stand] } ∧ St' P m m' := by
  obtain ⟨a, b, c, hw, hp⟩ := h.at_
  refine ⟨_, mark_ok hw h.wok, ⟨⟨a, b, c, hw.mark _, fun q hq => ⟨by simp; exact (hp q hq).1, (hp q hq).2⟩⟩, h.s, fun s hs => ?_, by simp; omega, h.mp, h.mt, h.small⟩, ⟨by simp, fun q hq => ?_⟩⟩
  · rcases List.mem_append.mp hs with z | z
    · exact h.mks s z
    · have : s = W.stand := by simpa using z
      rw [this]; exact h.s.st
  · have := hp q hq
    rw [List.getElem?_set_ne (by omega)]
theorem Gw.undo (h : Gw P n mp mt m w W) {k : Nat} {s : Stand} (hk : W.mks[k]? = some s) (hs : Sk Nm n mp mt s) :
    ∃ m', sem_Web_undo [.ptr w, .int k] m = .ok .non m' ∧ Gw P n mp mt m' w { W with ps := s.1, ts := s.2.1, np := s.2.2.1, nt := s.2.2.2, mks := W.mks.take (k + 1) } ∧ St' P m m' := by
  obtain ⟨a, b, c, hw, hp⟩ := h.at_
  obtain ⟨m', e, hw', fr⟩ := undo_ok hw h.wok hk
  refine ⟨m', e, ⟨⟨_, _, c, hw', fun q hq => ?_⟩, hs, fun s hs => h.mks s (List.mem_of_mem_take hs), by have := h.many; have hz := List.length_take (i := k + 1) (l := W.mks); simp only; omega, h.mp, h.mt, h.small⟩, ⟨fr.len, fun q hq => ?_⟩⟩
  · have := hp q hq
    have := fr.len
    exact ⟨by omega, by omega, by omega, by omega, by omega⟩
  · have := hp q hq
    exact fr.at_ q (by omega) (by simp; omega)
theorem Gw.ties (h : Gw P n mp mt m w W) : sem_Web_ties [.ptr w] m = .ok (.lst (W.ts.map tieD)) m := by
  obtain ⟨a, b, c, hw, hp⟩ := h.at_
  exact ties_ok hw h.s.st
theorem Gw.obj (h : Gw P n mp mt m w W) : ∃ a b c, m[w]? = some (.obj "Web" (webF W a b c)) := by
  obtain ⟨a, b, c, hw, hp⟩ := h.at_
  exact ⟨a, b, c, hw.o⟩
end
/-! ### lists of things that rise -/
theorem erase_filter {α : Type} (f : α → Int) : ∀ {l : List α}, (l.map f).Pairwise (· < ·) → ∀ {i : Nat} {x : α}, l[i]? = some x → l.eraseIdx i = l.filter fun y => decide (f y ≠ f x)
  | [], _, i, x, h => by simp at h
  | y :: l, hp, 0, x, h => by
    rw [List.map_cons, List.pairwise_cons] at hp
    simp at h
    subst h
    rw [List.eraseIdx_cons_zero, List.filter_cons]
    simp only [ne_eq, not_true_eq_false, decide_false, Bool.false_eq_true, if_false]
    symm
    rw [List.filter_eq_self]
    intro z hz
    have := hp.1 (f z) (List.mem_map_of_mem hz)
    simp; omega
  | y :: l, hp, i + 1, x, h => by
    rw [List.map_cons, List.pairwise_cons] at hp
    have h' : l[i]? = some x := by simpa using h
    have hx := List.mem_of_getElem? h'
    have := hp.1 (f x) (List.mem_map_of_mem hx)
    rw [List.eraseIdx_cons_succ, List.filter_cons, erase_filter f hp.2 h']
    have : decide (f y ≠ f x) = true := by simp; omega
    simp [this]
theorem erase_map {α β : Type} (f : α → β) (l : List α) (i : Nat) : (l.map f).eraseIdx i = (l.eraseIdx i).map f := by
  induction l generalizing i with
  | nil => rfl
  | cons x l ih =>
    cases i with
    | zero => rfl
    | succ i => simp [ih]
end LW

set_option maxHeartbeats 2000000
namespace LW
open PySem PySem.Spec L2 DL
open PyProof.Rows hiding St

/-- the bag has gone on; other places from the start stay, more may stand behind -/
structure Bx (b : Nat) (ms ms' : MS) : Prop where
  bag : Bag b ms'
  len : ms.length ≤ ms'.length
  rest : ∀ n, n < ms.length → n ≠ b → ms'[n]? = ms[n]?
theorem Bx.refl {b : Nat} {ms : MS} (h : Bag b ms) : Bx b ms ms := ⟨h, Nat.le_refl _, fun _ _ _ => rfl⟩
theorem Bx.draw {b : Nat} {m1 m2 m3 : MS} (h : Bx b m1 m2) (h' : Bg b m2 m3) : Bx b m1 m3 := ⟨h'.bag, by rw [h'.len]; exact h.len, fun n hn hb => (h'.rest n hb).trans (h.rest n hn hb)⟩
theorem Bx.set {b p : Nat} {m1 m2 : MS} (h : Bx b m1 m2) (hp : m1.length ≤ p) (hb : b < m1.length) {c : Cell} : Bx b m1 (m2.set p c) := by
  refine ⟨?_, by rw [List.length_set]; exact h.len, fun n hn hb => by rw [List.getElem?_set_ne (by omega)]; exact h.rest n hn hb⟩
  obtain ⟨cs, k, d, st, q, e, r⟩ := h.bag
  exact ⟨cs, k, d, st, q, by rw [List.getElem?_set_ne (by omega)]; exact e, r⟩
theorem Bx.push {b : Nat} {m1 m2 : MS} (h : Bx b m1 m2) (hb : b < m1.length) {c : Cell} : Bx b m1 (m2 ++ [c]) := by
  have hl := h.len
  refine ⟨?_, by rw [List.length_append]; omega, fun n hn hb => by rw [List.getElem?_append_left (by omega)]; exact h.rest n hn hb⟩
  obtain ⟨cs, k, d, st, q, e, r⟩ := h.bag
  exact ⟨cs, k, d, st, q, by rw [List.getElem?_append_left (by omega)]; exact e, r⟩
theorem bag_low {b n : Nat} {ms : MS} (h : Bag b ms) : ∃ c, ms[b]? = some c ∧ lowCell n c = true := by
  obtain ⟨cs, k, d, st, q, e, _⟩ := h
  refine ⟨_, e, ?_⟩
  have : lowDs n (cs.map D.int) = true := by
    clear e
    induction cs with
    | nil => rfl
    | cons c cs ih => show (true && lowDs n (cs.map D.int)) = true; rw [ih]; rfl
  show (lowDs n (cs.map D.int) && _) = true
  rw [this]
  rfl
theorem Bx.tidy {b : Nat} {m1 m2 : MS} (h : Bx b m1 m2) : Tidy m1.length m1 m2 := fun n hn => by
  by_cases e : n = b
  · subst e; exact .inr (bag_low h.bag)
  · exact .inl (h.rest n hn e)
theorem Bx.take {b : Nat} {m1 m2 : MS} (h : Bx b m1 m2) (hb : b < m1.length) : Bg b m1 (m2.take m1.length) := by
  have hl := h.len
  refine ⟨?_, by rw [List.length_take]; omega, fun n hn => ?_⟩
  · obtain ⟨cs, k, d, st, q, e, r⟩ := h.bag
    exact ⟨cs, k, d, st, q, by rw [List.getElem?_take_of_lt hb]; exact e, r⟩
  · by_cases hlt : n < m1.length
    · rw [List.getElem?_take_of_lt hlt]; exact h.rest n hlt hn
    · rw [List.getElem?_eq_none (by rw [List.length_take]; omega), List.getElem?_eq_none (by omega)]
end LW

set_option maxHeartbeats 4000000
namespace LW
open PySem PySem.Spec L2 DL
open PyProof.Rows hiding St

/-! ### the names -/
theorem abc_len : ("abcdefghijklmnopqrstuvwxyz" : Str).length = 26 := by decide +kernel
theorem letters_ok {m : MS} (hb : Bag 0 m) {e1 e2 e3 e4 e5 : Option D} : OK (compE endL (rngSrc1 (binE (cE (.int 1)) (appE (consA (varE 0) (consA (cE (.int 8)) nilA)) (callP 2 sem__law_draw)) addD)) (nameT 5) yesT (binE (cE (.str "abcdefghijklmnopqrstuvwxyz")) (appE (consA (varE 0) (consA (cE (.int 26)) nilA)) (callP 2 sem__law_draw)) idxD) [5] [some (.ptr 0), e1, e2, e3, e4, e5] m)
    fun d m' => ∃ ys : List Str, d = .lst (ys.map .str) ∧ 1 ≤ ys.length ∧ ys.length ≤ 8 ∧ (∀ y ∈ ys, y.length = 1 ∧ Low y) ∧ Bg 0 m m' := by
  obtain ⟨_, m1, d1, q, rfl, q0, q1, B1⟩ := draw_ok hb (many := 8) (by decide) (by decide)
  have hp : (-4611686018427387904 : Int) ≤ 1 + q ∧ 1 + q < 4611686018427387904 := by omega
  refine comp_ok (P := fun s m' => s.nx = (fun i _ => rngNx 0 (1 + q).toNat i) ∧ s.n = (1 + q).toNat + 1 ∧ m' = m1) (by simp -implicitDefEqProofs [d1, hp]) ?_
  rintro s m' ⟨hs1, hs2, rfl⟩
  rw [hs1, hs2]
  refine (comp_inv ((List.range (1 + q).toNat).map fun (k : Nat) => D.int (0 + (k : Int))) (fun i acc m2 => ∃ ys : List Str, acc = ys.map .str ∧ ys.length = i ∧ (∀ y ∈ ys, y.length = 1 ∧ Low y) ∧ Bg 0 m' m2) (fun i acc m _ _ => rngNx_eq 0 (1 + q).toNat i)
    (fun i acc m _ hI => by obtain ⟨ys, rfl, h, _⟩ := hI; simp [h]) (by simp; omega) (fun i x acc m2 hx hI => ?_) ((1 + q).toNat + 1) 0 [] m' (by simp) (by simp) ⟨[], rfl, rfl, (fun _ h => by cases h), .refl B1.bag⟩).mono ?_
  · obtain ⟨ys, rfl, hl, hys, B⟩ := hI
    obtain ⟨_, m3, d3, r, rfl, r0, r1, B3⟩ := draw_ok B.bag (many := 26) (by decide) (by decide)
    have ha : ch ("abcdefghijklmnopqrstuvwxyz" : Str) = [97, 98, 99, 100, 101, 102, 103, 104, 105, 106, 107, 108, 109, 110, 111, 112, 113, 114, 115, 116, 117, 118, 119, 120, 121, 122] := by decide +kernel
    obtain ⟨c, hc, hm⟩ := atI_in (xs := ch ("abcdefghijklmnopqrstuvwxyz" : Str)) (i := r) r0 (by rw [ha]; exact r1)
    have hz : ("abcdefghijklmnopqrstuvwxyz" : Str).length ≤ 16777216 := by decide +kernel
    have e : stepOf (nameT 5) yesT (binE (cE (.str "abcdefghijklmnopqrstuvwxyz")) (appE (consA (varE 0) (consA (cE (.int 26)) nilA)) (callP 2 sem__law_draw)) idxD) [some (.ptr 0), e1, e2, e3, e4, none] x m2 = .ok (some (.str ⟨#[c]⟩)) m3 := by
      simp -implicitDefEqProofs [d3, hc, hz]
    refine ⟨_, _, e, ys ++ [⟨#[c]⟩], by simp, by simp [hl], fun z hz => ?_, B.trans B3⟩
    rcases List.mem_append.mp hz with h | h
    · exact hys z h
    · obtain rfl : z = ⟨#[c]⟩ := by simpa using h
      refine ⟨rfl, fun y hy => ?_⟩
      have : y = c := by simpa [ch] using hy
      subst this
      rw [ha] at hm
      simp at hm
      omega
  · rintro acc m2 ⟨ys, rfl, hl, hys, B⟩
    have hl' : ys.length = (1 + q).toNat := by simpa using hl
    exact OK.pure ⟨ys, rfl, by omega, by omega, hys, B1.trans B⟩
theorem join_nm {ys : List Str} (h1 : 1 ≤ ys.length) (h8 : ys.length ≤ 8) (h : ∀ y ∈ ys, y.length = 1 ∧ Low y) : Nm (Txt.join "" ys) := by
  have hs : ((ys.map ch).flatten).length = ys.length := by
    clear h1 h8
    induction ys with
    | nil => rfl
    | cons y ys ih =>
      rw [List.map_cons, List.flatten_cons, List.length_append, ih fun z hz => h z (List.mem_cons_of_mem _ hz), ← ch_len, (h y (List.mem_cons_self ..)).1, List.length_cons]
      omega
  refine ⟨fun c hc => ?_, ?_, ?_⟩
  · rw [join_len, List.mem_flatten] at hc
    obtain ⟨l, hl, hcl⟩ := hc
    obtain ⟨y, hy, rfl⟩ := List.mem_map.mp hl
    exact (h y hy).2 c hcl
  · rw [ch_len, join_len, hs]; exact h1
  · rw [ch_len, join_len, hs]; exact h8
theorem sums_le {ys : List Str} (h : ∀ y ∈ ys, y.length = 1 ∧ Low y) (h8 : ys.length ≤ 8) : (ys.map (·.length)).sum ≤ 8 := by
  have : (ys.map (·.length)).sum = ys.length := by
    clear h8
    induction ys with
    | nil => rfl
    | cons y ys ih =>
      rw [List.map_cons, List.sum_cons, ih fun z hz => h z (List.mem_cons_of_mem _ hz), (h y (List.mem_cons_self ..)).1, List.length_cons]
      omega
  omega
theorem texts_map (l : List Str) : textsOf (l.map D.str) = some l := by
  induction l with
  | nil => rfl
  | cons x l ih =>
    rw [List.map_cons]
    unfold textsOf
    rw [ih]
    first | rfl | simp

theorem names_ok {m : MS} (hb : Bag 0 m) : OK (sem__law_names [.ptr 0] m) fun d m' => ∃ xs : List Str, d = .lst (xs.map .str) ∧ xs.length = 4 ∧ (∀ x ∈ xs, Nm x) ∧ Bg 0 m m' := by
  have hml : 0 < m.length := by obtain ⟨_, _, _, _, _, h, _⟩ := hb; exact bag_lt h
  rw [sem__law_names_eq]
  refine runT_ok (run_ok ?_)
  unfold B__law_names
  obtain ⟨_, m1, d1, r, rfl, r0, r1, B1⟩ := draw_ok hb (many := 4) (by decide) (by decide)
  refine seq_nx (env' := [some (.ptr 0), some (.int r), none, none, none, none]) (ms1 := m1) (by simp -implicitDefEqProofs [d1]) ?_
  have fin : ∀ {m2 : MS} {xs : List Str}, Bx 0 m m2 → Bg 0 m (m2.take m.length) := fun h => h.take hml
  refine seq_if_ret (b := decide (r < 3)) (ms1 := m1) (by simp -implicitDefEqProofs) (fun hc => ?_) (fun hc => ?_)
  · have hr : r < 3 := by simpa using hc
    obtain ⟨dd, hd, hm⟩ := atI_in (xs := [D.lst [.str "a", .str "b", .str "a", .str "b"], .lst [.str "from", .str "any", .str "trail", .str "to"], .lst [.str "ab", .str "abc", .str "a", .str "abcdefgh"]]) (i := r) r0 (by exact hr)
    have hx : ∃ xs : List Str, dd = .lst (xs.map .str) ∧ xs.length = 4 ∧ (∀ x ∈ xs, Nm x) := by
      simp only [List.mem_cons, List.not_mem_nil, or_false] at hm
      rcases hm with rfl | rfl | rfl
      · exact ⟨["a", "b", "a", "b"], rfl, rfl, fun x hx => by simp only [List.mem_cons, List.not_mem_nil, or_false] at hx; rcases hx with rfl | rfl | rfl | rfl <;> exact Nm.of (by decide +kernel)⟩
      · exact ⟨["from", "any", "trail", "to"], rfl, rfl, fun x hx => by simp only [List.mem_cons, List.not_mem_nil, or_false] at hx; rcases hx with rfl | rfl | rfl | rfl <;> exact Nm.of (by decide +kernel)⟩
      · exact ⟨["ab", "abc", "a", "abcdefgh"], rfl, rfl, fun x hx => by simp only [List.mem_cons, List.not_mem_nil, or_false] at hx; rcases hx with rfl | rfl | rfl | rfl <;> exact Nm.of (by decide +kernel)⟩
    obtain ⟨xs, rfl, hl, hn⟩ := hx
    have hB : Bx 0 m m1 := (Bx.refl hb).draw B1
    have hpur : purD (.lst (xs.map D.str)) = true := by
      show purDs (xs.map D.str) = true
      rw [purDs_iff]
      intro d hd
      obtain ⟨x, _, rfl⟩ := List.mem_map.mp hd
      rfl
    simp -implicitDefEqProofs [hd]
    exact ⟨_, frz_pur _ hpur, hB.tidy, xs, rfl, hl, hn, hB.take hml⟩
  refine seq_nx (env' := [some (.ptr 0), some (.int r), some (.ptr m1.length), none, none, none]) (ms1 := m1 ++ [.lst []]) (by simp -implicitDefEqProofs) ?_
  have hl1 : m1.length = m.length := B1.len
  have hB : Bx 0 m (m1 ++ [.lst []]) := ((Bx.refl hb).draw B1).push hml
  refine seq_ok (P := fun env m2 => ∃ (xs : List Str) (e3 e4 e5 : Option D), env = [some (.ptr 0), some (.int r), some (.ptr m1.length), e3, e4, e5] ∧ Bx 0 m m2 ∧ m2[m1.length]? = some (.lst (xs.map .str)) ∧ xs.length = 4 ∧ ∀ x ∈ xs, Nm x) (for_ok (P := fun s m' => s.nx = (fun i _ => rngNx 0 4 i) ∧ s.n = 5 ∧ m' = m1 ++ [.lst []]) (by simp -implicitDefEqProofs) ?_) ?_
  · rintro s m' ⟨hs1, hs2, rfl⟩
    rw [hs1, hs2]
    refine (for_inv ((List.range 4).map fun (k : Nat) => D.int (0 + (k : Int))) (fun i env m2 => ∃ (xs : List Str) (e3 e4 e5 : Option D), env = [some (.ptr 0), some (.int r), some (.ptr m1.length), e3, e4, e5] ∧ Bx 0 m m2 ∧ m2[m1.length]? = some (.lst (xs.map .str)) ∧ xs.length = i ∧ ∀ x ∈ xs, Nm x) (fun _ _ => False) (fun _ _ => False) (fun i _ _ _ _ => rngNx_eq 0 4 i) (fun i x env m2 hx hI => turn_name ?_) 5 0 _ (m1 ++ [.lst []]) (by simp) (by simp) ⟨[], none, none, none, rfl, hB, by simp, rfl, fun _ h => nomatch h⟩).mono ?_
    · obtain ⟨xs, e3, e4, e5, rfl, hB2, hat, hlen, hn⟩ := hI
      have hi : i < 4 := by
        have := (List.getElem?_eq_some_iff.mp hx).1
        simpa using this
      obtain ⟨_, m3, d3, ys, rfl, y1, y8, hys, B3⟩ := letters_ok hB2.bag (e1 := some (.int r)) (e2 := some (.ptr m1.length)) (e3 := some x) (e4 := e4) (e5 := e5)
      have hat3 : m3[m1.length]? = some (.lst (xs.map .str)) := by rw [B3.rest _ (by omega)]; exact hat
      have t1 := texts_map ys
      have z1 := sums_le hys y8
      have z0 : ("" : Str).length = 0 := by decide +kernel
      have z2 : (ys.map (·.length)).sum + ys.length * ("" : Str).length ≤ 16777216 := by rw [z0]; omega
      have z3 : xs.length < 16777216 := by omega
      show OK (seqS _ _ [some (.ptr 0), some (.int r), some (.ptr m1.length), some x, e4, e5] m2) _
      refine seq_nx (env' := [some (.ptr 0), some (.int r), some (.ptr m1.length), some x, some (.lst (ys.map .str)), e5]) (ms1 := m3) (by unfold setS; rw [d3]; rfl) ?_
      refine OK_of (a := (.nx, [some (.ptr 0), some (.int r), some (.ptr m1.length), some x, some (.lst (ys.map .str)), e5])) (m := m3.set m1.length (.lst (xs.map .str ++ [.str (Txt.join "" ys)]))) (by simp -implicitDefEqProofs [hat3, t1, z2, z3]) ?_
      refine ⟨xs ++ [Txt.join "" ys], some x, _, e5, rfl, (hB2.draw B3).set (by omega) hml, ?_, by simp [hlen], fun z hz => ?_⟩
      · rw [List.getElem?_set_self (bag_lt hat3)]; simp
      · rcases List.mem_append.mp hz with h | h
        · exact hn z h
        · have : z = Txt.join "" ys := by simpa using h
          rw [this]; exact join_nm y1 y8 hys
    · rintro ⟨fl, env'⟩ m' h
      cases fl with
      | nx =>
        rcases h with h | h
        · exact ⟨rfl, h⟩
        · exact h.elim
      | brk => exact h.elim
      | cont => exact h.elim
      | ret d => exact h.elim
  · rintro env m2 ⟨xs, e3, e4, e5, rfl, hB2, hat, hlen, hn⟩
    have hnl : ¬ m1.length < m.length := by omega
    have hlow : lowDs m.length (xs.map D.str) = true := lows_pur _ (by
      rw [purDs_iff]
      intro d hd
      obtain ⟨x, _, rfl⟩ := List.mem_map.mp hd
      rfl)
    have hf : frz m.length m2 (.ptr m1.length) = some (.lst (xs.map .str)) := by
      unfold frz
      rw [if_neg hnl, hat]
      simp only [hlow, if_true]
    simp -implicitDefEqProofs [hf]
    exact ⟨hB2.tidy, xs, rfl, hlen, hn, hB2.take hml⟩
end LW

set_option maxHeartbeats 4000000
namespace LW
open PySem PySem.Spec L2 DL
open PyProof.Rows hiding St

/-! ### the web -/
/-- a web, a list of its places, a list of its ties, in cells of their own -/
structure Wb (P : List Nat) (n u v : Int) (m : MS) (w sp : Nat) (W : Web) : Prop where
  g : Gw (sp :: P) n u v m w W
  at1 : m[sp]? = some (.lst (W.ps.map .int))
  nin : sp ∉ P
theorem pair_rise {ps : List Int} (h : ps.Pairwise (· < ·)) : (ps.map fun x => x).Pairwise (· < ·) := by simpa using h
section
variable {P : List Nat} {n u v : Int} {m : MS} {w : Nat} {W : Web}
/-- so many places -/
theorem spots_ok {N : Nat} {e0 e1 e2 e3 e4 e5 e6 e7 e9 e10 e11 e12 e13 e14 : Option D} {f : DL.Env → MS → Res D} (h : Gw P n u v m w ⟨u, v, [], [], 0, 0, []⟩) (hN : (N : Int) ≤ u) (hN2 : N ≤ 1000)
    (hf : f [e0, e1, e2, e3, e4, e5, e6, e7, some (.ptr w), e9, e10, e11, e12, e13, e14] m = .ok (.int N) m) :
    OK (compE endM (rngSrc1 f) (nameT 10) yesT (methE "Web" "place" (varE 8) nilA (callP 1 sem_Web_place)) [10] [e0, e1, e2, e3, e4, e5, e6, e7, some (.ptr w), e9, e10, e11, e12, e13, e14] m)
      fun d m' => ∃ (ps : List Int), d = .ptr (m'.length - 1) ∧ ps.length = N ∧ Wb P (n + N) u v m' w (m'.length - 1) ⟨u, v, ps, [], N, 0, []⟩ ∧ St' P m m' := by
  have c1 : (-4611686018427387904 : Int) ≤ N := by omega
  have c2 : (N : Int) < 4611686018427387904 := by omega
  refine comp_ok (P := fun s m' => s.nx = (fun i _ => rngNx 0 N i) ∧ s.n = N + 1 ∧ m' = m) (by simp -implicitDefEqProofs [hf, c1, c2]) ?_
  rintro s m' ⟨hs1, hs2, rfl⟩
  rw [hs1, hs2]
  refine (comp_inv ((List.range N).map fun (k : Nat) => D.int (0 + (k : Int))) (fun i acc m2 => ∃ ps : List Int, acc = ps.map .int ∧ ps.length = i ∧ Gw P (n + i) u v m2 w ⟨u, v, ps, [], i, 0, []⟩ ∧ St' P m' m2) (fun i acc m _ _ => rngNx_eq 0 N i)
    (fun i acc m _ hI => by obtain ⟨ys, rfl, h, _⟩ := hI; simp [h]) (by simp; omega) (fun i x acc m2 hx hI => ?_) (N + 1) 0 [] m' (by simp) (by simp) ⟨[], rfl, rfl, by simpa using h, .refl⟩).mono ?_
  · obtain ⟨ps, rfl, hl, G, hS⟩ := hI
    have hi : i < N := by
      have := (List.getElem?_eq_some_iff.mp hx).1
      simpa using this
    obtain ⟨m3, e, G', hS'⟩ := G.place (by simp only [hl]; omega)
    obtain ⟨a, b, c, ho⟩ := G.obj
    refine OK.noExc ?_
    simp -implicitDefEqProofs [ho, e]
    refine ⟨ps ++ [(i : Int)], by simp, by simp [hl], ?_, hS.trans hS'⟩
    have e1 : n + ((i : Int) + 1) = n + i + 1 := by omega
    rw [e1]
    exact G'
  · rintro acc m2 ⟨ps, rfl, hl, G, hS⟩
    have hl' : ps.length = N := by simpa using hl
    refine OK.pure ⟨ps, by simp, hl', ⟨?_, ?_, ?_⟩, hS.trans ⟨by simp, fun q hq => ?_⟩⟩
    · have hz : ((List.range N).map fun (k : Nat) => D.int (0 + (k : Int))).length = N := by simp
      rw [hz] at G
      have := G.push (.lst (ps.map D.int))
      simpa using this
    · simp
    · obtain ⟨a, b, c, hw, hp⟩ := G.at_
      intro hq
      have := (hp _ hq).1
      simp at this
    · obtain ⟨a, b, c, hw, hp⟩ := G.at_
      exact List.getElem?_append_left (hp q hq).1
/-- some of them dropped again -/
theorem drops_ok {N : Nat} {sp : Nat} {e1 e2 e3 e4 e5 e6 e7 e10 e11 e12 e13 e14 : Option D} {f : DL.Env → MS → Res D} (h : Wb P n u v m w sp W) (h0 : 0 ∈ P) (hb : Bag 0 m) (ht : W.ts = []) (hN : N < W.ps.length) (hl : W.ps.length ≤ 1000)
    (hf : f [some (.ptr 0), e1, e2, e3, e4, e5, e6, e7, some (.ptr w), some (.ptr sp), e10, e11, e12, e13, e14] m = .ok (.int N) m) :
    OK (forS (rngSrc1 f) (nameT 10) (dropS (methE "Web" "drop" (varE 8) (consA (popAtM (varE 9) (appE (consA (varE 0) (consA (appE (consA (varE 9) nilA) lenP) nilA)) (callP 2 sem__law_draw))) nilA) (callP 2 sem_Web_drop))) [some (.ptr 0), e1, e2, e3, e4, e5, e6, e7, some (.ptr w), some (.ptr sp), e10, e11, e12, e13, e14] m)
      fun a m' => a.1 = .nx ∧ ∃ ps e10', a.2 = [some (.ptr 0), e1, e2, e3, e4, e5, e6, e7, some (.ptr w), some (.ptr sp), e10', e11, e12, e13, e14] ∧ Wb P n u v m' w sp { W with ps := ps } ∧ ps.length + N = W.ps.length ∧ Bag 0 m' ∧ ∀ q ∈ P, q ≠ 0 → m'[q]? = m[q]? := by
  have c1 : (-4611686018427387904 : Int) ≤ N := by omega
  have c2 : (N : Int) < 4611686018427387904 := by omega
  refine for_ok (P := fun s m' => s.nx = (fun i _ => rngNx 0 N i) ∧ s.n = N + 1 ∧ m' = m) (by simp -implicitDefEqProofs [hf, c1, c2]) ?_
  rintro s m' ⟨hs1, hs2, rfl⟩
  rw [hs1, hs2]
  refine (for_inv ((List.range N).map fun (k : Nat) => D.int (0 + (k : Int))) (fun i env m2 => ∃ ps e10', env = [some (.ptr 0), e1, e2, e3, e4, e5, e6, e7, some (.ptr w), some (.ptr sp), e10', e11, e12, e13, e14] ∧ Wb P n u v m2 w sp { W with ps := ps } ∧ ps.length + i = W.ps.length ∧ Bag 0 m2 ∧ ∀ q ∈ P, q ≠ 0 → m2[q]? = m'[q]?) (fun _ _ => False) (fun _ _ => False) (fun i _ _ _ _ => rngNx_eq 0 N i) (fun i x env m2 hx hI => turn_name ?_) (N + 1) 0 _ m' (by simp) (by simp) ⟨W.ps, e10, rfl, h, rfl, hb, fun _ _ _ => rfl⟩).mono ?_
  · obtain ⟨ps, e10', rfl, hw, hlen, hB, hq⟩ := hI
    have hi : i < N := by
      have := (List.getElem?_eq_some_iff.mp hx).1
      simpa using this
    have hl2 : ps.length ≤ 16777216 := by omega
    obtain ⟨_, m3, d3, r, rfl, r0, r1, B3⟩ := draw_ok hB (many := (ps.length : Int)) (by omega) (by omega)
    have hg3 : Gw (sp :: P) n u v m3 w { W with ps := ps } := hw.g.draw (List.mem_cons_of_mem _ h0) B3
    have hsp0 : sp ≠ 0 := fun e => hw.nin (e ▸ h0)
    have hsp : m2[sp]? = some (.lst (ps.map .int)) := hw.at1
    have hsp3 : m3[sp]? = some (.lst (ps.map .int)) := by rw [B3.rest sp hsp0]; exact hsp
    obtain ⟨k, rfl⟩ := Int.eq_ofNat_of_zero_le r0
    have hk : k < ps.length := by omega
    have hkp : ps[k]? = some ps[k] := List.getElem?_eq_getElem hk
    have hki : (k : Int) < 4611686018427387904 := by omega
    have hg4 : Gw (sp :: P) n u v (m3.set sp (.lst ((ps.eraseIdx k).map .int))) w { W with ps := ps } := hg3.set (List.mem_cons_self ..) _
    have hp' : (ps.map D.int)[k]? = some (.int ps[k]) := by rw [List.getElem?_map, hkp]; rfl
    have her : (ps.map D.int).eraseIdx k = (ps.eraseIdx k).map D.int := erase_map _ _ _
    obtain ⟨m5, e5', G5, hS5⟩ := hg4.drop (p := ps[k]) (List.getElem_mem hk) (by rw [show ({ W with ps := ps } : Web).ts = [] from ht]; rfl)
    obtain ⟨a, b, c, ho⟩ := hg4.obj
    obtain ⟨a', b', c', ho'⟩ := hw.g.obj
    have herase : ps.eraseIdx k = ps.filter fun q => decide (q ≠ ps[k]) := erase_filter (fun x => x) (pair_rise hw.g.s.st.pr) hkp
    have hel : (ps.eraseIdx k).length = ps.length - 1 := List.length_eraseIdx_of_lt hk
    have hkk : ps.length > k := hk
    refine OK_of (a := (.nx, [some (.ptr 0), e1, e2, e3, e4, e5, e6, e7, some (.ptr w), some (.ptr sp), some x, e11, e12, e13, e14])) (m := m5) (by simp -implicitDefEqProofs [ho', hsp, hl2, d3, hsp3, hki, hk, hp', her, ho, e5']) ?_
    refine ⟨ps.eraseIdx k, some x, rfl, ⟨?_, ?_, hw.nin⟩, by rw [hel]; omega, ?_, fun q hq' hq0 => ?_⟩
    · rw [← herase] at G5; exact G5
    · exact (hS5.same sp (List.mem_cons_self ..)).trans (List.getElem?_set_self (lt_of hsp3))
    · refine hS5.bag (List.mem_cons_of_mem _ h0) ?_
      exact (St'.bag (P := [0]) ⟨by simp, fun q hq => by rw [List.mem_singleton] at hq; subst hq; rw [List.getElem?_set_ne hsp0]⟩ (List.mem_singleton.mpr rfl) B3.bag)
    · rw [hS5.same q (List.mem_cons_of_mem _ hq'), List.getElem?_set_ne (by intro e; subst e; exact hw.nin hq'), B3.rest q hq0]
      exact hq q hq' hq0
  · rintro ⟨fl, env'⟩ m2 h
    cases fl with
    | nx =>
      rcases h with ⟨ps, e10', rfl, hw, hlen, r⟩ | h
      · exact ⟨rfl, ps, e10', rfl, hw, by simpa using hlen, r⟩
      · exact h.elim
    | brk => exact h.elim
    | cont => exact h.elim
    | ret d => exact h.elim
end
end LW

set_option maxHeartbeats 4000000
namespace LW
open PySem PySem.Spec L2 DL
open PyProof.Rows hiding St

/-- and a list of its ties -/
structure Wt (P : List Nat) (n u v : Int) (m : MS) (w sp ow : Nat) (W : Web) : Prop where
  g : Gw (ow :: sp :: P) n u v m w W
  at1 : m[sp]? = some (.lst (W.ps.map .int))
  at2 : m[ow]? = some (.lst (W.ts.map tieD))
  n1 : sp ∉ P
  n2 : ow ∉ P
  n3 : ow ≠ sp
section
variable {P : List Nat} {n u v : Int} {m : MS} {w sp ow : Nat} {W : Web} {xs : List Str}
theorem atL {α : Type} {l : List α} {i : Int} (h0 : 0 ≤ i) (h : i < l.length) (f : α → D) : ∃ x, atI (l.map f) i = some (f x) ∧ x ∈ l := by
  obtain ⟨x, hx, hm⟩ := atI_in (xs := l) h0 h
  exact ⟨x, by rw [atI_map, hx]; rfl, hm⟩
theorem min_of (a b : Int) : (if b < a then b else a) = min a b := by
  by_cases h : b < a
  · rw [if_pos h]; omega
  · rw [if_neg h]; omega
/-- ties between its places -/
theorem ties_made {N many : Nat} {near : Int} {e3 e5 e6 e7 e10 e12 e13 e14 : Option D} {f : DL.Env → MS → Res D} (h : Wt P n u v m w sp ow W) (h0 : 0 ∈ P) (hb : Bag 0 m) (ht : W.ts = []) (hN : (N : Int) ≤ v) (hN2 : N ≤ 1000) (hl : W.ps.length = many) (hm : 1 ≤ many ∧ many ≤ 1000)
    (hx4 : xs.length = 4) (hxn : ∀ x ∈ xs, Nm x) (hnr : 0 ≤ near ∧ near < 3)
    (hf : f [some (.ptr 0), some (.lst (xs.map .str)), some (.int many), e3, some (.int near), e5, e6, e7, some (.ptr w), some (.ptr sp), e10, some (.ptr ow), e12, e13, e14] m = .ok (.int N) m) :
    OK (forS (rngSrc1 f) (nameT 10) (seqS (setS 12 (appE (consA (varE 0) (consA (varE 2) nilA)) (callP 2 sem__law_draw)))
  (seqS (setS 13 (binE (appE (consA (appE (consA (varE 0) (consA (varE 2) nilA)) (callP 2 sem__law_draw)) (consA (binE (binE (varE 12) (cE (.int 1)) addD) (varE 2) modD) (consA (appE (consA (binE (varE 12) (appE (consA (varE 0) (consA (cE (.int 3)) nilA)) (callP 2 sem__law_draw)) addD) (consA (binE (varE 2) (cE (.int 1)) subD) nilA)) min2P) nilA))) mkLst) (varE 4) idxD))
  (seqS (setS 14 (binE (varE 1) (appE (consA (varE 0) (consA (cE (.int 4)) nilA)) (callP 2 sem__law_draw)) idxD))
  (dropS (appM (varE 11) (appE (consA (methE "Web" "tie" (varE 8) (consA (binE (varE 9) (varE 12) idxD) (consA (varE 14) (consA (binE (varE 9) (varE 13) idxD) nilA))) (callP 4 sem_Web_tie)) (consA (binE (varE 9) (varE 12) idxD) (consA (varE 14) (consA (binE (varE 9) (varE 13) idxD) nilA)))) mkTup))))))
      [some (.ptr 0), some (.lst (xs.map .str)), some (.int many), e3, some (.int near), e5, e6, e7, some (.ptr w), some (.ptr sp), e10, some (.ptr ow), e12, e13, e14] m)
      fun a m' => a.1 = .nx ∧ ∃ ts e10' e12' e13' e14', a.2 = [some (.ptr 0), some (.lst (xs.map .str)), some (.int many), e3, some (.int near), e5, e6, e7, some (.ptr w), some (.ptr sp), e10', some (.ptr ow), e12', e13', e14'] ∧ Wt P (n + N) u v m' w sp ow { W with ts := ts, nt := W.nt + N } ∧ ts.length = N ∧ Bag 0 m' ∧ ∀ q ∈ P, q ≠ 0 → m'[q]? = m[q]? := by
  have c1 : (-4611686018427387904 : Int) ≤ N := by omega
  have c2 : (N : Int) < 4611686018427387904 := by omega
  refine for_ok (P := fun s m' => s.nx = (fun i _ => rngNx 0 N i) ∧ s.n = N + 1 ∧ m' = m) (by simp -implicitDefEqProofs [hf, c1, c2]) ?_
  rintro s m' ⟨hs1, hs2, rfl⟩
  rw [hs1, hs2]
  refine (for_inv ((List.range N).map fun (k : Nat) => D.int (0 + (k : Int))) (fun i env m2 => ∃ ts e10' e12' e13' e14', env = [some (.ptr 0), some (.lst (xs.map .str)), some (.int many), e3, some (.int near), e5, e6, e7, some (.ptr w), some (.ptr sp), e10', some (.ptr ow), e12', e13', e14'] ∧ Wt P (n + i) u v m2 w sp ow { W with ts := ts, nt := W.nt + i } ∧ ts.length = i ∧ Bag 0 m2 ∧ ∀ q ∈ P, q ≠ 0 → m2[q]? = m'[q]?) (fun _ _ => False) (fun _ _ => False) (fun i _ _ _ _ => rngNx_eq 0 N i) (fun i x env m2 hx hI => turn_name ?_) (N + 1) 0 _ m' (by simp) (by simp) ⟨[], e10, e12, e13, e14, rfl, by rw [show ({ W with ts := [], nt := W.nt + ((0 : Nat) : Int) } : Web) = W by rw [← ht]; simp]; simpa using h, rfl, hb, fun _ _ _ => rfl⟩).mono ?_
  · obtain ⟨ts, e10', e12', e13', e14', rfl, hw, hlen, hB, hq⟩ := hI
    have hi : i < N := by
      have := (List.getElem?_eq_some_iff.mp hx).1
      simpa using this
    have hsp0 : sp ≠ 0 := fun e => hw.n1 (e ▸ h0)
    have how0 : ow ≠ 0 := fun e => hw.n2 (e ▸ h0)
    obtain ⟨_, m3, d3, a, rfl, a0, a1, B3⟩ := draw_ok hB (many := (many : Int)) (by omega) (by omega)
    obtain ⟨_, m4, d4, b, rfl, b0, b1, B4⟩ := draw_ok B3.bag (many := (many : Int)) (by omega) (by omega)
    obtain ⟨_, m5, d5, c, rfl, c0, c1', B5⟩ := draw_ok B4.bag (many := 3) (by decide) (by decide)
    obtain ⟨dd, hd, hmm⟩ := atI_in (xs := [D.int b, D.int ((a + 1) % many), D.int (if (many : Int) - 1 < a + c then (many : Int) - 1 else a + c)]) (i := near) hnr.1 (by exact hnr.2)
    obtain ⟨z, rfl, z0, z1⟩ : ∃ z : Int, dd = .int z ∧ 0 ≤ z ∧ z < many := by
      simp only [List.mem_cons, List.not_mem_nil, or_false] at hmm
      rcases hmm with rfl | rfl | rfl
      · exact ⟨b, rfl, b0, b1⟩
      · exact ⟨_, rfl, Int.emod_nonneg _ (by omega), Int.emod_lt_of_pos _ (by omega)⟩
      · refine ⟨_, rfl, ?_, ?_⟩ <;> split <;> omega
    obtain ⟨_, m6, d6, l, rfl, l0, l1, B6⟩ := draw_ok B5.bag (many := 4) (by decide) (by decide)
    obtain ⟨x', hx', hxm⟩ := atL (l := xs) l0 (by rw [hx4]; exact l1) D.str
    obtain ⟨p, hp, hpm⟩ := atL (l := W.ps) a0 (by rw [hl]; exact a1) D.int
    obtain ⟨q, hq', hqm⟩ := atL (l := W.ps) z0 (by rw [hl]; exact z1) D.int
    have hg : Gw (ow :: sp :: P) (n + i) u v m6 w { W with ts := ts, nt := W.nt + i } := (((hw.g.draw (by simp [h0]) B3).draw (by simp [h0]) B4).draw (by simp [h0]) B5).draw (by simp [h0]) B6
    have hsp6 : m6[sp]? = some (.lst (W.ps.map .int)) := by rw [B6.rest sp hsp0, B5.rest sp hsp0, B4.rest sp hsp0, B3.rest sp hsp0]; exact hw.at1
    have how6 : m6[ow]? = some (.lst (ts.map tieD)) := by rw [B6.rest ow how0, B5.rest ow how0, B4.rest ow how0, B3.rest ow how0]; exact hw.at2
    obtain ⟨m7, e7', G7, hS7⟩ := hg.tie hpm hqm (hxn x' hxm) (by simp only [hlen]; omega)
    obtain ⟨oa, ob, oc, ho⟩ := hg.obj
    have hsp7 := hS7.at (q := sp) (by simp) hsp6
    have how7 := hS7.at (q := ow) (by simp) how6
    have hlt : ts.length < 16777216 := by omega
    show OK (seqS _ _ [some (.ptr 0), some (.lst (xs.map .str)), some (.int many), e3, some (.int near), e5, e6, e7, some (.ptr w), some (.ptr sp), some x, some (.ptr ow), e12', e13', e14'] m2) _
    refine seq_nx (env' := [some (.ptr 0), some (.lst (xs.map .str)), some (.int many), e3, some (.int near), e5, e6, e7, some (.ptr w), some (.ptr sp), some x, some (.ptr ow), some (.int a), e13', e14']) (ms1 := m3) (by simp -implicitDefEqProofs [d3]) ?_
    have hmany : (0 : Int) < many := by omega
    have hmany' : 0 < many := by omega
    refine seq_nx (env' := [some (.ptr 0), some (.lst (xs.map .str)), some (.int many), e3, some (.int near), e5, e6, e7, some (.ptr w), some (.ptr sp), some x, some (.ptr ow), some (.int a), some (.int z), e14']) (ms1 := m5) (by simp -implicitDefEqProofs [d4, d5, hmany, hmany', hd]) ?_
    refine seq_nx (env' := [some (.ptr 0), some (.lst (xs.map .str)), some (.int many), e3, some (.int near), e5, e6, e7, some (.ptr w), some (.ptr sp), some x, some (.ptr ow), some (.int a), some (.int z), some (.str x')]) (ms1 := m6) (by simp -implicitDefEqProofs [d6, hx']) ?_
    refine OK_of (a := (.nx, [some (.ptr 0), some (.lst (xs.map .str)), some (.int many), e3, some (.int near), e5, e6, e7, some (.ptr w), some (.ptr sp), some x, some (.ptr ow), some (.int a), some (.int z), some (.str x')])) (m := m7.set ow (.lst (ts.map tieD ++ [tieD (W.nt + i, p, x', q)]))) (by simp -implicitDefEqProofs [how6, ho, hsp6, hp, hq', e7', hsp7, how7, hlt, tieD]) ?_
    refine ⟨ts ++ [(W.nt + i, p, x', q)], some x, some (.int a), some (.int z), some (.str x'), rfl, ⟨?_, ?_, ?_, hw.n1, hw.n2, hw.n3⟩, by simp [hlen], ?_, fun k hk hk0 => ?_⟩
    · have := G7.set (q := ow) (by simp) (.lst (ts.map tieD ++ [tieD (W.nt + i, p, x', q)]))
      have e1 : n + (((i + 1 : Nat)) : Int) = n + i + 1 := by omega
      have e2 : W.nt + (((i + 1 : Nat)) : Int) = W.nt + i + 1 := by omega
      rw [e1, e2]
      exact this
    · rw [List.getElem?_set_ne hw.n3]; exact hsp7
    · rw [List.getElem?_set_self (lt_of how7), List.map_append]; rfl
    · refine St'.bag (P := [0]) (m := m7) ⟨by simp, fun k hk => by rw [List.mem_singleton] at hk; subst hk; exact List.getElem?_set_ne how0⟩ (by simp) ?_
      exact hS7.bag (by simp [h0]) B6.bag
    · rw [List.getElem?_set_ne (by intro e; subst e; exact hw.n2 hk), hS7.same k (by simp [hk]), B6.rest k hk0, B5.rest k hk0, B4.rest k hk0, B3.rest k hk0]
      exact hq k hk hk0
  · rintro ⟨fl, env'⟩ m2 h
    cases fl with
    | nx =>
      rcases h with ⟨ts, e10', e12', e13', e14', rfl, hw, hlen, r⟩ | h
      · have hz : ((List.range N).map fun (k : Nat) => D.int (0 + (k : Int))).length = N := by simp
        rw [hz] at hw hlen
        exact ⟨rfl, ts, e10', e12', e13', e14', rfl, hw, hlen, r⟩
      · exact h.elim
    | brk => exact h.elim
    | cont => exact h.elim
    | ret d => exact h.elim
/-- some of them cut again -/
theorem cuts_ok {N : Nat} {e1 e2 e3 e4 e5 e6 e7 e9 e10 e12 e13 e14 : Option D} {f : DL.Env → MS → Res D} (h : Wt P n u v m w sp ow W) (h0 : 0 ∈ P) (hb : Bag 0 m) (hN : N ≤ W.ts.length) (hl : W.ts.length ≤ 1000)
    (hf : f [some (.ptr 0), e1, e2, e3, e4, e5, e6, e7, some (.ptr w), e9, e10, some (.ptr ow), e12, e13, e14] m = .ok (.int N) m) :
    OK (forS (rngSrc1 f) (nameT 10) (dropS (methE "Web" "cut" (varE 8) (consA (binE (popAtM (varE 11) (appE (consA (varE 0) (consA (appE (consA (varE 11) nilA) lenP) nilA)) (callP 2 sem__law_draw))) (cE (.int 0)) idxD) nilA) (callP 2 sem_Web_cut))) [some (.ptr 0), e1, e2, e3, e4, e5, e6, e7, some (.ptr w), e9, e10, some (.ptr ow), e12, e13, e14] m)
      fun a m' => a.1 = .nx ∧ ∃ ts e10', a.2 = [some (.ptr 0), e1, e2, e3, e4, e5, e6, e7, some (.ptr w), e9, e10', some (.ptr ow), e12, e13, e14] ∧ Wt P n u v m' w sp ow { W with ts := ts } ∧ ts.length + N = W.ts.length ∧ Bag 0 m' ∧ ∀ q ∈ P, q ≠ 0 → m'[q]? = m[q]? := by
  have c1 : (-4611686018427387904 : Int) ≤ N := by omega
  have c2 : (N : Int) < 4611686018427387904 := by omega
  refine for_ok (P := fun s m' => s.nx = (fun i _ => rngNx 0 N i) ∧ s.n = N + 1 ∧ m' = m) (by simp -implicitDefEqProofs [hf, c1, c2]) ?_
  rintro s m' ⟨hs1, hs2, rfl⟩
  rw [hs1, hs2]
  refine (for_inv ((List.range N).map fun (k : Nat) => D.int (0 + (k : Int))) (fun i env m2 => ∃ ts e10', env = [some (.ptr 0), e1, e2, e3, e4, e5, e6, e7, some (.ptr w), e9, e10', some (.ptr ow), e12, e13, e14] ∧ Wt P n u v m2 w sp ow { W with ts := ts } ∧ ts.length + i = W.ts.length ∧ Bag 0 m2 ∧ ∀ q ∈ P, q ≠ 0 → m2[q]? = m'[q]?) (fun _ _ => False) (fun _ _ => False) (fun i _ _ _ _ => rngNx_eq 0 N i) (fun i x env m2 hx hI => turn_name ?_) (N + 1) 0 _ m' (by simp) (by simp) ⟨W.ts, e10, rfl, h, rfl, hb, fun _ _ _ => rfl⟩).mono ?_
  · obtain ⟨ts, e10', rfl, hw, hlen, hB, hq⟩ := hI
    have hi : i < N := by
      have := (List.getElem?_eq_some_iff.mp hx).1
      simpa using this
    have hl2 : ts.length ≤ 16777216 := by omega
    have how0 : ow ≠ 0 := fun e => hw.n2 (e ▸ h0)
    obtain ⟨_, m3, d3, r, rfl, r0, r1, B3⟩ := draw_ok hB (many := (ts.length : Int)) (by omega) (by omega)
    have hg3 : Gw (ow :: sp :: P) n u v m3 w { W with ts := ts } := hw.g.draw (by simp [h0]) B3
    have how : m2[ow]? = some (.lst (ts.map tieD)) := hw.at2
    have how3 : m3[ow]? = some (.lst (ts.map tieD)) := by rw [B3.rest ow how0]; exact how
    obtain ⟨k, rfl⟩ := Int.eq_ofNat_of_zero_le r0
    have hk : k < ts.length := by omega
    have hkp : ts[k]? = some ts[k] := List.getElem?_eq_getElem hk
    have hki : (k : Int) < 4611686018427387904 := by omega
    have hg4 : Gw (ow :: sp :: P) n u v (m3.set ow (.lst ((ts.eraseIdx k).map tieD))) w { W with ts := ts } := hg3.set (List.mem_cons_self ..) _
    have hp' : (ts.map tieD)[k]? = some (.tup [.int ts[k].1, .int ts[k].2.1, .str ts[k].2.2.1, .int ts[k].2.2.2]) := by rw [List.getElem?_map, hkp]; rfl
    have her : (ts.map tieD).eraseIdx k = (ts.eraseIdx k).map tieD := erase_map _ _ _
    obtain ⟨m5, e5', G5, hS5⟩ := hg4.cut (t := ts[k]) (List.getElem_mem hk)
    obtain ⟨a, b, c, ho⟩ := hg4.obj
    obtain ⟨a', b', c', ho'⟩ := hw.g.obj
    have herase : ts.eraseIdx k = ts.filter fun q => decide (q.1 ≠ ts[k].1) := erase_filter (fun x => x.1) hw.g.s.st.tr hkp
    have hel : (ts.eraseIdx k).length = ts.length - 1 := List.length_eraseIdx_of_lt hk
    refine OK_of (a := (.nx, [some (.ptr 0), e1, e2, e3, e4, e5, e6, e7, some (.ptr w), e9, some x, some (.ptr ow), e12, e13, e14])) (m := m5) (by simp -implicitDefEqProofs [ho', how, hl2, d3, how3, hki, hp', her, ho, e5']) ?_
    refine ⟨ts.eraseIdx k, some x, rfl, ⟨?_, ?_, ?_, hw.n1, hw.n2, hw.n3⟩, by rw [hel]; omega, ?_, fun q hq' hq0 => ?_⟩
    · rw [← herase] at G5; exact G5
    · rw [hS5.same sp (by simp), List.getElem?_set_ne hw.n3]
      by_cases e : sp = 0
      · exact absurd h0 (e ▸ hw.n1)
      · rw [B3.rest sp e]; exact hw.at1
    · exact (hS5.same ow (List.mem_cons_self ..)).trans (List.getElem?_set_self (lt_of how3))
    · refine hS5.bag (by simp [h0]) ?_
      exact (St'.bag (P := [0]) ⟨by simp, fun q hq => by rw [List.mem_singleton] at hq; subst hq; rw [List.getElem?_set_ne how0]⟩ (List.mem_singleton.mpr rfl) B3.bag)
    · rw [hS5.same q (by simp [hq']), List.getElem?_set_ne (by intro e; subst e; exact hw.n2 hq'), B3.rest q hq0]
      exact hq q hq' hq0
  · rintro ⟨fl, env'⟩ m2 h
    cases fl with
    | nx =>
      rcases h with ⟨ps, e10', rfl, hw, hlen, r⟩ | h
      · exact ⟨rfl, ps, e10', rfl, hw, by simpa using hlen, r⟩
      · exact h.elim
    | brk => exact h.elim
    | cont => exact h.elim
    | ret d => exact h.elim
end
end LW

set_option maxHeartbeats 4000000
namespace LW
open PySem PySem.Spec L2 DL
open PyProof.Rows hiding St

theorem new_web {m : MS} (hb : Bag 0 m) (x y : Int) (hx : 0 ≤ x ∧ x ≤ 1000) (hy : 0 ≤ y ∧ y ≤ 1000) : ∃ m', sem_Web___init__ [.ptr m.length, .int x, .int y] (m ++ [.obj "Web" []]) = .ok .non m' ∧ Gw [0] 0 x y m' m.length ⟨x, y, [], [], 0, 0, []⟩ ∧ Bag 0 m' := by
  obtain ⟨m', e, hw, fr⟩ := init_ok (ms := m) x y
  have hl : 0 < m.length := by obtain ⟨_, _, _, _, _, h, _⟩ := hb; exact bag_lt h
  have := fr.len
  refine ⟨m', e, ⟨⟨_, _, _, hw, fun q hq => ?_⟩, Sk.new (by decide) hx.1 hy.1, (fun s h => nomatch h), by simp, rfl, rfl, hx.2, hy.2⟩, ?_⟩
  · obtain rfl : q = 0 := by simpa using hq
    exact ⟨by omega, by omega, by omega, by omega, by omega⟩
  · obtain ⟨cs, k, c, st, q, z, r⟩ := hb
    exact ⟨cs, k, c, st, q, by rw [fr.at_ 0 hl (by simp)]; exact z, r⟩
structure Web4 (m : MS) (w sp ow : Nat) (many ties : Nat) (W : Web) : Prop where
  t : ∃ u v, Wt [0] 500 u v m w sp ow W ∧ (many < 60 → (many : Int) < u) ∧ (ties < 200 → (ties : Int) < v)
  bag : Bag 0 m
  lp : W.ps.length = many
  lt : W.ts.length = ties
  mk0 : W.mks = []
theorem web_ok {m : MS} {xs : List Str} {many ties : Nat} (hb : Bag 0 m) (hx4 : xs.length = 4) (hxn : ∀ x ∈ xs, Nm x) (hm : 1 ≤ many ∧ many ≤ 60) (ht : ties ≤ 200) :
    OK (sem__law_web [.ptr 0, .lst (xs.map .str), .int many, .int ties] m) fun d m' => ∃ w sp ow W, d = .tup [.ptr w, .ptr sp, .ptr ow] ∧ Web4 m' w sp ow many ties W := by
  rw [sem__law_web_eq]
  refine run_ok ?_
  unfold B__law_web
  obtain ⟨_, m1, d1, near, rfl, n0, n1, B1⟩ := draw_ok hb (many := 3) (by decide) (by decide)
  refine seq_nx (env' := [some (.ptr 0), some (.lst (xs.map .str)), some (.int many), some (.int ties), some (.int near), none, none, none, none, none, none, none, none, none, none]) (ms1 := m1) (by simp -implicitDefEqProofs [d1]) ?_
  obtain ⟨_, m2, d2, g, rfl, g0, g1, B2⟩ := draw_ok B1.bag (many := 3) (by decide) (by decide)
  refine seq_nx (env' := [some (.ptr 0), some (.lst (xs.map .str)), some (.int many), some (.int ties), some (.int near), some (.bl (g == 2)), none, none, none, none, none, none, none, none, none]) (ms1 := m2) (by simp -implicitDefEqProofs [d2]) ?_
  refine seq_ok (P := fun env m' => ∃ more : Nat, env = [some (.ptr 0), some (.lst (xs.map .str)), some (.int many), some (.int ties), some (.int near), some (.bl (g == 2)), some (.int more), none, none, none, none, none, none, none, none] ∧ many + more ≤ 60 ∧ Bag 0 m') ?_ ?_
  · by_cases hg : g = 2
    · subst hg
      have hmin : ∃ k : Nat, (if 60 - (many : Int) < many then 60 - (many : Int) else many) = k ∧ many + k ≤ 60 := by
        by_cases h : 60 - (many : Int) < many
        · exact ⟨60 - many, by rw [if_pos h]; omega, by omega⟩
        · exact ⟨many, by rw [if_neg h], by omega⟩
      obtain ⟨k, hk, hk2⟩ := hmin
      obtain ⟨_, m3, d3, r, rfl, r0, r1, B3⟩ := draw_ok B2.bag (many := (k : Int) + 1) (by omega) (by omega)
      obtain ⟨r, rfl⟩ := Int.eq_ofNat_of_zero_le r0
      refine OK_of (a := (.nx, [some (.ptr 0), some (.lst (xs.map .str)), some (.int many), some (.int ties), some (.int near), some (.bl ((2 : Int) == 2)), some (.int r), none, none, none, none, none, none, none, none])) (m := m3) (by simp -implicitDefEqProofs [hk, d3]) ⟨rfl, r, rfl, by omega, B3.bag⟩
    · have hg' : (g == 2) = false := by simpa using hg
      refine OK_of (a := (.nx, [some (.ptr 0), some (.lst (xs.map .str)), some (.int many), some (.int ties), some (.int near), some (.bl (g == 2)), some (.int 0), none, none, none, none, none, none, none, none])) (m := m2) (by simp -implicitDefEqProofs [hg']) ⟨rfl, 0, rfl, by omega, B2.bag⟩
  rintro env m3 ⟨more, rfl, hmore, hb3⟩
  refine seq_ok (P := fun env m' => ∃ odd : Nat, env = [some (.ptr 0), some (.lst (xs.map .str)), some (.int many), some (.int ties), some (.int near), some (.bl (g == 2)), some (.int more), some (.int odd), none, none, none, none, none, none, none] ∧ ties + odd ≤ 200 ∧ Bag 0 m') ?_ ?_
  · by_cases hg : g = 2
    · subst hg
      have hmin : ∃ k : Nat, (if 200 - (ties : Int) < ties then 200 - (ties : Int) else ties) = k ∧ ties + k ≤ 200 := by
        by_cases h : 200 - (ties : Int) < ties
        · exact ⟨200 - ties, by rw [if_pos h]; omega, by omega⟩
        · exact ⟨ties, by rw [if_neg h], by omega⟩
      obtain ⟨k, hk, hk2⟩ := hmin
      obtain ⟨_, m4, d4, r, rfl, r0, r1, B4⟩ := draw_ok hb3 (many := (k : Int) + 1) (by omega) (by omega)
      obtain ⟨r, rfl⟩ := Int.eq_ofNat_of_zero_le r0
      refine OK_of (a := (.nx, [some (.ptr 0), some (.lst (xs.map .str)), some (.int many), some (.int ties), some (.int near), some (.bl ((2 : Int) == 2)), some (.int more), some (.int r), none, none, none, none, none, none, none])) (m := m4) (by simp -implicitDefEqProofs [hk, d4]) ⟨rfl, r, rfl, by omega, B4.bag⟩
    · have hg' : (g == 2) = false := by simpa using hg
      refine OK_of (a := (.nx, [some (.ptr 0), some (.lst (xs.map .str)), some (.int many), some (.int ties), some (.int near), some (.bl (g == 2)), some (.int more), some (.int 0), none, none, none, none, none, none, none])) (m := m3) (by simp -implicitDefEqProofs [hg']) ⟨rfl, 0, rfl, by omega, hb3⟩
  rintro env m4 ⟨odd, rfl, hodd, hb4⟩
  -- the maker
  refine seq_ok (P := fun env m' => ∃ (w : Nat) (u v : Int), env = [some (.ptr 0), some (.lst (xs.map .str)), some (.int many), some (.int ties), some (.int near), some (.bl (g == 2)), some (.int more), some (.int odd), some (.ptr w), none, none, none, none, none, none] ∧ Gw [0] 0 u v m' w ⟨u, v, [], [], 0, 0, []⟩ ∧ Bag 0 m' ∧ ((many + more : Nat) : Int) ≤ u ∧ ((ties + odd : Nat) : Int) ≤ v ∧ (many < 60 → (many : Int) < u) ∧ (ties < 200 → (ties : Int) < v)) ?_ ?_
  · have dflt : ∀ {m5 : MS}, Bag 0 m5 → ∃ m6, makeE "Web" 3 (constA dv_Web___init__) sem_Web___init__ [some (.ptr 0), some (.lst (xs.map .str)), some (.int many), some (.int ties), some (.int near), some (.bl (g == 2)), some (.int more), some (.int odd), none, none, none, none, none, none, none] m5 = .ok (.ptr m5.length) m6 ∧ Gw [0] 0 60 200 m6 m5.length ⟨60, 200, [], [], 0, 0, []⟩ ∧ Bag 0 m6 := fun {m5} h5 => by
      obtain ⟨m6, e6, G6, b6⟩ := new_web h5 60 200 (by decide) (by decide)
      exact ⟨m6, by simp -implicitDefEqProofs [dv_Web___init__, e6], G6, b6⟩
    by_cases hg : g = 2
    · subst hg
      obtain ⟨_, m5, d5, r, rfl, r0, r1, B5⟩ := draw_ok hb4 (many := 2) (by decide) (by decide)
      by_cases hr : r = 1
      · subst hr
        obtain ⟨m6, e6, G6, b6⟩ := new_web B5.bag ((many : Int) + more + 1) ((ties : Int) + odd + 4) (by omega) (by omega)
        refine OK_of (a := (.nx, [some (.ptr 0), some (.lst (xs.map .str)), some (.int many), some (.int ties), some (.int near), some (.bl ((2 : Int) == 2)), some (.int more), some (.int odd), some (.ptr m5.length), none, none, none, none, none, none])) (m := m6) (by simp -implicitDefEqProofs [d5, e6]) ⟨rfl, m5.length, _, _, rfl, G6, b6, by omega, by omega, by omega, by omega⟩
      · have hr' : (r == 1) = false := by simpa using hr
        obtain ⟨m6, e6, G6, b6⟩ := dflt B5.bag
        refine OK_of (a := (.nx, [some (.ptr 0), some (.lst (xs.map .str)), some (.int many), some (.int ties), some (.int near), some (.bl ((2 : Int) == 2)), some (.int more), some (.int odd), some (.ptr m5.length), none, none, none, none, none, none])) (m := m6) (by
          unfold setS iteE
          rw [show andT (truT (varE 5)) (valT (binE (appE (consA (varE 0) (consA (cE (.int 2)) nilA)) (callP 2 sem__law_draw)) (cE (.int 1)) eqD)) [some (.ptr 0), some (.lst (xs.map .str)), some (.int many), some (.int ties), some (.int near), some (.bl ((2 : Int) == 2)), some (.int more), some (.int odd), none, none, none, none, none, none, none] m4 = .ok false m5 by simp -implicitDefEqProofs [d5, hr']]
          simp only [bind_ok, Bool.false_eq_true, if_false]
          rw [e6]
          rfl) ⟨rfl, m5.length, _, _, rfl, G6, b6, by omega, by omega, by omega, by omega⟩
    · have hg' : (g == 2) = false := by simpa using hg
      obtain ⟨m6, e6, G6, b6⟩ := dflt hb4
      refine OK_of (a := (.nx, [some (.ptr 0), some (.lst (xs.map .str)), some (.int many), some (.int ties), some (.int near), some (.bl (g == 2)), some (.int more), some (.int odd), some (.ptr m4.length), none, none, none, none, none, none])) (m := m6) (by
          unfold setS iteE
          rw [show andT (truT (varE 5)) (valT (binE (appE (consA (varE 0) (consA (cE (.int 2)) nilA)) (callP 2 sem__law_draw)) (cE (.int 1)) eqD)) [some (.ptr 0), some (.lst (xs.map .str)), some (.int many), some (.int ties), some (.int near), some (.bl (g == 2)), some (.int more), some (.int odd), none, none, none, none, none, none, none] m4 = .ok false m4 by simp -implicitDefEqProofs [hg']]
          simp only [bind_ok, Bool.false_eq_true, if_false]
          rw [e6]
          rfl) ⟨rfl, m4.length, _, _, rfl, G6, b6, by omega, by omega, by omega, by omega⟩
  rintro env m5 ⟨w, u, v, rfl, G5, hb5, hu, hv, hu2, hv2⟩
  -- its places
  refine seq_ok (P := fun env m' => ∃ (sp : Nat) (ps : List Int), env = [some (.ptr 0), some (.lst (xs.map .str)), some (.int many), some (.int ties), some (.int near), some (.bl (g == 2)), some (.int more), some (.int odd), some (.ptr w), some (.ptr sp), none, none, none, none, none] ∧ ps.length = many + more ∧ Wb [0] ((many + more : Nat) : Int) u v m' w sp ⟨u, v, ps, [], ((many + more : Nat) : Int), 0, []⟩ ∧ Bag 0 m') ?_ ?_
  · refine set_ok ((spots_ok (N := many + more) (f := binE (varE 2) (varE 6) addD) G5 hu (by omega) (by simp -implicitDefEqProofs)).mono ?_)
    rintro d m' ⟨ps, rfl, hps, hW, hS⟩
    refine ⟨rfl, m'.length - 1, ps, rfl, hps, ?_, hS.bag (by simp) hb5⟩
    have e : (0 : Int) + ((many + more : Nat) : Int) = ((many + more : Nat) : Int) := by omega
    rw [e] at hW
    exact hW
  rintro env m6 ⟨sp, ps, rfl, hps, hW6, hb6⟩
  refine seq_ok (P := fun env m' => ∃ (ps : List Int) (e10 : Option D), env = [some (.ptr 0), some (.lst (xs.map .str)), some (.int many), some (.int ties), some (.int near), some (.bl (g == 2)), some (.int more), some (.int odd), some (.ptr w), some (.ptr sp), e10, none, none, none, none] ∧ ps.length = many ∧ Wb [0] ((many + more : Nat) : Int) u v m' w sp ⟨u, v, ps, [], ((many + more : Nat) : Int), 0, []⟩ ∧ Bag 0 m') ?_ ?_
  · refine (drops_ok (N := more) (f := varE 6) hW6 (by simp) hb6 rfl (by simp only [hps]; omega) (by simp only [hps]; omega) (by simp -implicitDefEqProofs)).mono ?_
    rintro a m' ⟨h1, ps', e10', h2, hW, hl, hb', _⟩
    exact ⟨h1, ps', e10', h2, by simp only [hps] at hl; omega, hW, hb'⟩
  clear hW6 hps ps
  rintro env m7 ⟨ps, e10, rfl, hps, hW7, hb7⟩
  refine seq_nx (env' := [some (.ptr 0), some (.lst (xs.map .str)), some (.int many), some (.int ties), some (.int near), some (.bl (g == 2)), some (.int more), some (.int odd), some (.ptr w), some (.ptr sp), e10, some (.ptr m7.length), none, none, none]) (ms1 := m7 ++ [.lst []]) (by simp -implicitDefEqProofs) ?_
  have hsl : sp < m7.length := lt_of hW7.at1
  have h0l : 0 < m7.length := by obtain ⟨_, _, _, _, _, h, _⟩ := hb7; exact bag_lt h
  have T7 : Wt [0] ((many + more : Nat) : Int) u v (m7 ++ [.lst []]) w sp m7.length ⟨u, v, ps, [], ((many + more : Nat) : Int), 0, []⟩ :=
    ⟨hW7.g.push _, by rw [List.getElem?_append_left hsl]; exact hW7.at1, by simp, hW7.nin, (fun z => by have := List.mem_singleton.mp z; omega), by omega⟩
  have hb8 : Bag 0 (m7 ++ [.lst []]) := by
    obtain ⟨cs, k, c, st, q, z, r⟩ := hb7
    exact ⟨cs, k, c, st, q, by rw [List.getElem?_append_left h0l]; exact z, r⟩
  generalize m7.length = ow at T7
  generalize m7 ++ [Cell.lst []] = m8 at T7 hb8
  -- its ties
  refine seq_ok (P := fun env m' => ∃ (ts : List Tie) (e10 e12 e13 e14 : Option D), env = [some (.ptr 0), some (.lst (xs.map .str)), some (.int many), some (.int ties), some (.int near), some (.bl (g == 2)), some (.int more), some (.int odd), some (.ptr w), some (.ptr sp), e10, some (.ptr ow), e12, e13, e14] ∧ ts.length = ties + odd ∧ Wt [0] (((many + more : Nat) : Int) + ((ties + odd : Nat) : Int)) u v m' w sp ow ⟨u, v, ps, ts, ((many + more : Nat) : Int), ((ties + odd : Nat) : Int), []⟩ ∧ Bag 0 m') ?_ ?_
  · refine (ties_made (N := ties + odd) (f := binE (varE 3) (varE 7) addD) T7 (by simp) hb8 rfl hv (by omega) hps (by omega) hx4 hxn ⟨n0, n1⟩ (by simp -implicitDefEqProofs)).mono ?_
    rintro a m' ⟨h1, ts, e10', e12', e13', e14', h2, hW, hl, hb', _⟩
    have e : (0 : Int) + ((ties + odd : Nat) : Int) = ((ties + odd : Nat) : Int) := by omega
    refine ⟨h1, ts, e10', e12', e13', e14', h2, hl, ?_, hb'⟩
    simp only [e] at hW
    exact hW
  rintro env m9 ⟨ts, e10', e12, e13, e14, rfl, hts, T9, hb9⟩
  refine seq_ok (P := fun env m' => ∃ (ts : List Tie) (e10 : Option D), env = [some (.ptr 0), some (.lst (xs.map .str)), some (.int many), some (.int ties), some (.int near), some (.bl (g == 2)), some (.int more), some (.int odd), some (.ptr w), some (.ptr sp), e10, some (.ptr ow), e12, e13, e14] ∧ ts.length = ties ∧ Wt [0] (((many + more : Nat) : Int) + ((ties + odd : Nat) : Int)) u v m' w sp ow ⟨u, v, ps, ts, ((many + more : Nat) : Int), ((ties + odd : Nat) : Int), []⟩ ∧ Bag 0 m') ?_ ?_
  · refine (cuts_ok (N := odd) (f := varE 7) T9 (by simp) hb9 (by simp only [hts]; omega) (by simp only [hts]; omega) (by simp -implicitDefEqProofs)).mono ?_
    rintro a m' ⟨h1, ts', e10', h2, hW, hl, hb', _⟩
    exact ⟨h1, ts', e10', h2, by simp only [hts] at hl; omega, hW, hb'⟩
  clear T9 hts ts
  rintro env m10 ⟨ts, e10'', rfl, hts, T10, hb10⟩
  refine OK_of (a := (.ret (.tup [.ptr w, .ptr sp, .ptr ow]), [some (.ptr 0), some (.lst (xs.map .str)), some (.int many), some (.int ties), some (.int near), some (.bl (g == 2)), some (.int more), some (.int odd), some (.ptr w), some (.ptr sp), e10'', some (.ptr ow), e12, e13, e14])) (m := m10) (by simp -implicitDefEqProofs) ?_
  exact ⟨w, sp, ow, _, rfl, ⟨u, v, ⟨T10.g.mono (by omega), T10.at1, T10.at2, T10.n1, T10.n2, T10.n3⟩, hu2, hv2⟩, hb10, hps, hts, rfl⟩
end LW

set_option maxHeartbeats 4000000
namespace LW
open PySem PySem.Spec L2 DL
open PyProof.Rows hiding St

section
variable {P : List Nat} {n u v : Int} {m : MS} {w sp ow : Nat} {W : Web} {xs : List Str}
theorem Gw.low {n' : Int} (h : Gw P n' u v m w W) (hs : Sk Nm n u v W.stand) : Gw P n u v m w W := ⟨h.at_, hs, h.mks, h.many, h.mp, h.mt, h.small⟩
theorem Gw.ends (h : Gw P n u v m w W) {t : Tie} (ht : t ∈ W.ts) : sem_Web_ends_of [.ptr w, .int t.1] m = .ok (endD t) m := by
  obtain ⟨a, b, c, hw, _⟩ := h.at_
  have v1 : valD (tiK W.ts) (.inl t.1) = some (endD t) := val_ti h.s.st.tr ht
  simp -implicitDefEqProofs [sem_Web_ends_of_eq, B_Web_ends_of, hw.o, hw.t, need_tie_ok hw h.s.st ht, v1]
theorem nm_a : Nm "a" := Nm.of (by decide +kernel)
def spotD (W : Web) : D := if W.ps.length < 60 then .int W.np else .non
def bondD (W : Web) : D := if W.ts.length < 200 then .int W.nt else .non
/-- what comes next, told and undone -/
theorem coming_ok (h : Wt P n u v m w sp ow W) (hu : W.ps.length < 60 → (W.ps.length : Int) < u) (hv : W.ts.length < 200 → (W.ts.length : Int) < v) (hp : 1 ≤ W.ps.length) (hm : W.mks.length < 4000) :
    ∃ m', sem__law_coming [.ptr w, .ptr sp, .ptr ow] m = .ok (.lst [.int (W.mks.length + 1), spotD W, bondD W]) m' ∧ Wt P n u v m' w sp ow { W with mks := W.mks ++ [W.stand] } ∧ St' P m m' := by
  have f1 : W.ps.length ≤ 16777216 := by have := h.g.s.st.few; simp only [Web.stand] at this; omega
  have f2 : W.ts.length ≤ 16777216 := by have := h.g.s.st.few; simp only [Web.stand] at this; omega
  obtain ⟨p, ps, hps⟩ : ∃ p ps, W.ps = p :: ps := by
    cases q : W.ps with
    | nil => rw [q] at hp; simp at hp
    | cons p ps => exact ⟨p, ps, rfl⟩
  have hpm : p ∈ W.ps := by rw [hps]; simp
  obtain ⟨oa, ob, oc, ho⟩ := h.g.obj
  obtain ⟨m1, e1, G1, S1⟩ := h.g.mark (by omega)
  obtain ⟨oa1, ob1, oc1, ho1⟩ := G1.obj
  have sp1 := S1.at (q := sp) (by simp) h.at1
  have ow1 := S1.at (q := ow) (by simp) h.at2
  -- a place, perhaps
  obtain ⟨m2, W2, e2, G2, S2, hW2, hd2⟩ : ∃ m2 W2, iteE (valT (binE (appE (consA (varE 1) nilA) lenP) (cE (.int 60)) ltD)) (methE "Web" "place" (varE 0) nilA (callP 1 sem_Web_place)) (cE .non) [some (.ptr w), some (.ptr sp), some (.ptr ow), some (.int W.mks.length), none, none] m1 = .ok (spotD W) m2 ∧ Gw (ow :: sp :: P) (n + 1) u v m2 w W2 ∧ St' (ow :: sp :: P) m1 m2 ∧ W2.mks = W.mks ++ [W.stand] ∧ p ∈ W2.ps ∧ W2.ts = W.ts ∧ W2.nt = W.nt ∧ W2.mp = W.mp ∧ W2.mt = W.mt := by
    by_cases hc : W.ps.length < 60
    · obtain ⟨m2, e2, G2, S2⟩ := G1.place (hu hc)
      have hc' : (W.ps.length : Int) < 60 := by omega
      exact ⟨m2, _, by simp -implicitDefEqProofs [sp1, f1, hc, hc', ho1, e2, spotD], G2, S2, rfl, List.mem_append_left _ hpm, rfl, rfl, rfl, rfl⟩
    · have hc' : ¬ (W.ps.length : Int) < 60 := by omega
      exact ⟨m1, _, by simp -implicitDefEqProofs [sp1, f1, hc, hc', spotD], G1.mono (by omega), .refl, rfl, hpm, rfl, rfl, rfl, rfl⟩
  obtain ⟨hW2t, hW2n, hW2p, hW2q⟩ := hd2.2
  obtain ⟨oa2, ob2, oc2, ho2⟩ := G2.obj
  have sp2 := S2.at (q := sp) (by simp) sp1
  have ow2 := S2.at (q := ow) (by simp) ow1
  have hp0 : (W.ps.map D.int)[0]? = some (.int p) := by rw [hps]; rfl
  -- a tie, perhaps
  obtain ⟨m3, W3, e3, G3, S3, hW3, hW3p, hW3q⟩ : ∃ m3 W3, iteE (valT (binE (appE (consA (varE 2) nilA) lenP) (cE (.int 200)) ltD)) (methE "Web" "tie" (varE 0) (consA (binE (varE 1) (cE (.int 0)) idxD) (consA (cE (.str "a")) (consA (binE (varE 1) (cE (.int 0)) idxD) nilA))) (callP 4 sem_Web_tie)) (cE .non) [some (.ptr w), some (.ptr sp), some (.ptr ow), some (.int W.mks.length), some (spotD W), none] m2 = .ok (bondD W) m3 ∧ Gw (ow :: sp :: P) (n + 2) u v m3 w W3 ∧ St' (ow :: sp :: P) m2 m3 ∧ W3.mks = W.mks ++ [W.stand] ∧ W3.mp = W.mp ∧ W3.mt = W.mt := by
    by_cases hc : W.ts.length < 200
    · obtain ⟨m3, e3, G3, S3⟩ := G2.tie hd2.1 hd2.1 nm_a (by rw [hW2t]; exact hv hc)
      have hc' : (W.ts.length : Int) < 200 := by omega
      rw [hW2n] at e3
      exact ⟨m3, _, by simp -implicitDefEqProofs [ow2, f2, hc, hc', ho2, sp2, hp0, e3, bondD], G3.mono (by omega), S3, hW2, hW2p, hW2q⟩
    · have hc' : ¬ (W.ts.length : Int) < 200 := by omega
      exact ⟨m2, W2, by simp -implicitDefEqProofs [ow2, f2, hc, hc', bondD], G2.mono (by omega), .refl, hW2, hW2p, hW2q⟩
  obtain ⟨oa3, ob3, oc3, ho3⟩ := G3.obj
  obtain ⟨m4, e4, G4, S4⟩ := G3.undo (k := W.mks.length) (s := W.stand) (by rw [hW3]; simp) (h.g.s.mono (by omega))
  have S := ((S1.trans S2).trans S3).trans S4
  have hfin : ({ W3 with ps := W.stand.1, ts := W.stand.2.1, np := W.stand.2.2.1, nt := W.stand.2.2.2, mks := W3.mks.take (W.mks.length + 1) } : Web) = { W with mks := W.mks ++ [W.stand] } := by
    rw [hW3, hW3p, hW3q, List.take_of_length_le (by simp)]
    rfl
  rw [hfin] at G4
  refine ⟨m4, ?_, ⟨G4.low h.g.s, S.at (by simp) h.at1, S.at (by simp) h.at2, h.n1, h.n2, h.n3⟩, S.sub (by intro q hq; simp [hq])⟩
  have hs3 : setS 3 (methE "Web" "mark" (varE 0) nilA (callP 1 sem_Web_mark)) [some (.ptr w), some (.ptr sp), some (.ptr ow), none, none, none] m = .ok (.nx, [some (.ptr w), some (.ptr sp), some (.ptr ow), some (.int W.mks.length), none, none]) m1 := by
    simp -implicitDefEqProofs [ho, e1]
  rw [sem__law_coming_eq]
  unfold B__law_coming runF seqS
  simp only [envAt, List.map_cons, List.map_nil, List.length_cons, List.length_nil, List.replicate, List.cons_append, List.nil_append]
  show ((setS 3 (methE "Web" "mark" (varE 0) nilA (callP 1 sem_Web_mark)) [some (.ptr w), some (.ptr sp), some (.ptr ow), none, none, none] m).bind _).bind _ = _
  rw [hs3]
  simp only [bind_ok]
  unfold setS
  rw [e2]
  simp only [bind_ok, List.set_cons_succ, List.set_cons_zero]
  rw [e3]
  simp -implicitDefEqProofs [ho3, e4]
def sideS (b : Bool) : Str := if b then "on" else "back"
abbrev Stp := Tie × Bool
def stepD (s : Stp) : D := .tup [.int s.1.1, .str (sideS s.2)]
def letS (s : Stp) : Str := if s.2 then s.1.2.2.1 else "^" ++ s.1.2.2.1
theorem s_on : (("on" : Str) == "on") = true ∧ (("back" : Str) == "on") = false ∧ ("^" : Str).length = 1 := by decide +kernel
theorem spelled_ok (h : Gw P n u v m w W) {ss : List Stp} (hs : ∀ s ∈ ss, s.1 ∈ W.ts) (hl : ss.length ≤ 1000) :
    sem_spelled [.ptr w, .lst (ss.map stepD)] m = .ok (.ptr m.length) (m ++ [.lst ((ss.map letS).map .str)]) := by
  obtain ⟨o1, o2, o3⟩ := s_on
  have hG : ∀ l, Gw (m.length :: P) n u v (m ++ [.lst l]) w W := fun l => h.push _
  obtain ⟨a, m2, e2, h2⟩ := for_inv (nx := fun i _ => nxOf (some (ss.map stepD)) i) (turn := turnOf (tupT 2 (consT (nameT 3) (consT (nameT 4) nilT))) (seqS (asgS (methE "Web" "ends_of" (varE 0) (consA (varE 3) nilA) (callP 2 sem_Web_ends_of)) (tupT 3 (consT (nameT 5) (consT (nameT 6) (consT (nameT 5) nilT)))))
  (dropS (appM (varE 2) (iteE (valT (binE (varE 4) (cE (.str "on")) eqD)) (varE 6) (binE (cE (.str "^")) (varE 6) addD))))))
    (ss.map stepD) (fun i env mm => (∃ e3 e4 e5 e6, env = [some (.ptr w), some (.lst (ss.map stepD)), some (.ptr m.length), e3, e4, e5, e6]) ∧ mm = m ++ [.lst (((ss.take i).map letS).map .str)]) (fun _ _ => False) (fun _ _ => False) (fun i env m _ _ => rfl) (fun i x env mm hx hI => by
      obtain ⟨⟨e3, e4, e5, e6, rfl⟩, rfl⟩ := hI
      rw [List.getElem?_map] at hx
      cases q : ss[i]? with
      | none => rw [q] at hx; cases hx
      | some s =>
        rw [q] at hx
        cases hx
        have hi : i < ss.length := (List.getElem?_eq_some_iff.mp q).1
        have hsm := hs s (List.mem_of_getElem? q)
        have G := hG (((ss.take i).map letS).map .str)
        have e := G.ends hsm
        obtain ⟨oa, ob, oc, ho⟩ := G.obj
        have hnm := (h.s.nm _ hsm).le
        have z1 : ("^" : Str).length + s.1.2.2.1.length ≤ 16777216 := by rw [o3]; omega
        have z2 : min i ss.length < 16777216 := by omega
        have c7 : (ss.take (i + 1)).map letS = (ss.take i).map letS ++ [letS s] := by rw [List.take_add_one, q, List.map_append]; rfl
        have hat : (m ++ [Cell.lst (((ss.take i).map letS).map .str)])[m.length]? = some (.lst (((ss.take i).map letS).map .str)) := by simp
        have hset : ∀ y, (m ++ [Cell.lst (((ss.take i).map letS).map .str)]).set m.length (.lst y) = m ++ [.lst y] := fun y => by simp
        rw [c7]
        generalize hL : ((ss.take i).map letS).map D.str = L at G e ho hat hset
        have hLl : L.length < 16777216 := by rw [← hL]; simp; omega
        have hLa : ((ss.take i).map letS ++ [letS s]).map D.str = L ++ [.str (letS s)] := by rw [List.map_append, hL]; rfl
        rw [hLa]
        obtain ⟨t, b⟩ := s
        cases b with
        | true =>
          refine OK_of (a := (Fl.nx, [some (.ptr w), some (.lst (ss.map stepD)), some (.ptr m.length), some (.int t.1), some (.str "on"), some (.int t.2.2.2), some (.str t.2.2.1)])) (m := m ++ [Cell.lst (L ++ [.str t.2.2.1])]) (by simp -implicitDefEqProofs [stepD, sideS, ho, e, endD, o1, hat, hLl, hset]) ⟨⟨_, _, _, _, rfl⟩, rfl⟩
        | false =>
          refine OK_of (a := (Fl.nx, [some (.ptr w), some (.lst (ss.map stepD)), some (.ptr m.length), some (.int t.1), some (.str "back"), some (.int t.2.2.2), some (.str t.2.2.1)])) (m := m ++ [Cell.lst (L ++ [.str ("^" ++ t.2.2.1)])]) (by simp -implicitDefEqProofs [stepD, sideS, ho, e, endD, o2, hat, hLl, hset, z1]) ⟨⟨_, _, _, _, rfl⟩, rfl⟩) (ss.length + 1) 0 [some (.ptr w), some (.lst (ss.map stepD)), some (.ptr m.length), none, none, none, none] (m ++ [.lst []]) (by simp) (by simp) ⟨⟨none, none, none, none, rfl⟩, by simp⟩
  obtain ⟨fl, env⟩ := a
  cases fl with
  | brk => exact h2.elim
  | cont => exact h2.elim
  | ret d => exact h2.elim
  | nx =>
    rcases h2 with ⟨⟨e3, e4, e5, e6, rfl⟩, rfl⟩ | h2
    · have f3 : (ss.map stepD).length = ss.length := by simp
      rw [f3, List.take_length] at e2
      generalize (ss.map letS).map D.str = L at e2
      simp -implicitDefEqProofs [sem_spelled_eq, B_spelled, e2]
    · exact h2.elim
/-! ### alike -/
theorem alike_str (k : Nat) (x : Str) : sem__law_alike (k + 1) [.str x, .str x] m = .ok (.bl true) m := by
  simp -implicitDefEqProofs [sem__law_alike_eq, B__law_alike]
theorem alike_texts (k : Nat) {q : Nat} {ys : List Str} (h : m[q]? = some (.lst (ys.map .str))) (hl : ys.length ≤ 1000) : sem__law_alike (k + 2) [.ptr q, .lst (ys.map .str)] m = .ok (.bl true) m := by
  have hz : ys.length ≤ 16777216 := by omega
  have c1 : (-4611686018427387904 : Int) ≤ ys.length := by omega
  have c2 : (ys.length : Int) < 4611686018427387904 := by omega
  have e : compLoop (fun i _ => rngNx 0 ys.length i) (stepOf (nameT 2) yesT (appE (consA (binE (varE 0) (varE 2) idxD) (consA (binE (varE 1) (varE 2) idxD) nilA)) (callP 2 (sem__law_alike (k + 1)))) [some (.ptr q), some (.lst (ys.map .str)), none]) (ys.length + 1) 0 [] m = .ok ((List.range ys.length).map fun _ => D.bl true) m := by
    refine comp_zip (List.range ys.length) (fun k => D.int (0 + (k : Int))) (fun _ => D.bl true) (fun i => rngNx_eq 0 ys.length i) (by simp; omega) (fun j hj => ?_) (by simp)
    have hj' : j < ys.length := List.mem_range.mp hj
    have hy : ys[j]? = some ys[j] := List.getElem?_eq_getElem hj'
    have a := alike_str (m := m) k ys[j]
    simp -implicitDefEqProofs [h, atI_lit, List.getElem?_map, hy, a]
  have hb : (List.range ys.length).map (fun _ => D.bl true) = ((List.range ys.length).map fun _ => true).map D.bl := by rw [List.map_map]; rfl
  rw [hb] at e
  have hall : ((List.range ys.length).map fun _ => true).all id = true := by simp
  generalize (List.range ys.length).map (fun _ => true) = bs at e hall
  rw [sem__law_alike_eq]
  simp -implicitDefEqProofs [B__law_alike, h, hz, c1, c2, e, hall]
end
end LW

set_option maxHeartbeats 8000000
namespace LW
open PySem PySem.Spec L2 DL
open PyProof.Rows hiding St

section
variable {m : MS} {w sp ow : Nat} {W : Web}
/-- so many of the ties, drawn -/
theorem some_ok {K : Nat} {e0 e2 e3 e4 e5 e6 e7 e8 e9 e12 e13 e14 e15 e16 e17 e18 e19 : Option D} {n u v : Int} (h : Wt [0] n u v m w sp ow W) (hb : Bag 0 m) (hK : K ≤ 1000) (hp : K = 0 ∨ 1 ≤ W.ts.length) :
    OK (compE endL (rngSrc1 (varE 11)) (nameT 16) yesT (binE (varE 10) (appE (consA (varE 1) (consA (appE (consA (varE 10) nilA) lenP) nilA)) (callP 2 sem__law_draw)) idxD) [16] [e0, some (.ptr 0), e2, e3, e4, e5, e6, e7, e8, e9, some (.ptr ow), some (.int K), e12, e13, e14, e15, e16, e17, e18, e19] m)
      fun d m' => ∃ ts : List Tie, d = .lst (ts.map tieD) ∧ ts.length = K ∧ (∀ t ∈ ts, t ∈ W.ts) ∧ Wt [0] n u v m' w sp ow W ∧ Bag 0 m' := by
  have c1 : (-4611686018427387904 : Int) ≤ K := by omega
  have c2 : (K : Int) < 4611686018427387904 := by omega
  have hf : W.ts.length ≤ 1000 := h.g.s.st.few.2
  have hf' : W.ts.length ≤ 16777216 := by omega
  have how0 : ow ≠ 0 := fun e => h.n2 (by simp [e])
  have hsp0 : sp ≠ 0 := fun e => h.n1 (by simp [e])
  refine comp_ok (P := fun s m' => s.nx = (fun i _ => rngNx 0 K i) ∧ s.n = K + 1 ∧ m' = m) (by simp -implicitDefEqProofs [c1, c2]) ?_
  rintro s m' ⟨hs1, hs2, rfl⟩
  rw [hs1, hs2]
  refine (comp_inv ((List.range K).map fun (k : Nat) => D.int (0 + (k : Int))) (fun i acc m2 => ∃ ts : List Tie, acc = ts.map tieD ∧ ts.length = i ∧ (∀ t ∈ ts, t ∈ W.ts) ∧ Wt [0] n u v m2 w sp ow W ∧ Bag 0 m2) (fun i acc m _ _ => rngNx_eq 0 K i)
    (fun i acc m _ hI => by obtain ⟨ys, rfl, hl, _⟩ := hI; simp [hl]) (by simp; omega) (fun i x acc m2 hx hI => ?_) (K + 1) 0 [] m' (by simp) (by simp) ⟨[], rfl, rfl, (fun _ h => nomatch h), h, hb⟩).mono ?_
  · obtain ⟨ts, rfl, hl, hin, hW, hB⟩ := hI
    have hi : i < K := by
      have := (List.getElem?_eq_some_iff.mp hx).1
      simpa using this
    obtain ⟨_, m3, d3, r, rfl, r0, r1, B3⟩ := draw_ok hB (many := (W.ts.length : Int)) (by omega) (by omega)
    obtain ⟨t, ht, htm⟩ := atL (l := W.ts) r0 r1 tieD
    have how3 : m3[ow]? = some (.lst (W.ts.map tieD)) := by rw [B3.rest ow how0]; exact hW.at2
    have how2 := hW.at2
    have e : stepOf (nameT 16) yesT (binE (varE 10) (appE (consA (varE 1) (consA (appE (consA (varE 10) nilA) lenP) nilA)) (callP 2 sem__law_draw)) idxD) [e0, some (.ptr 0), e2, e3, e4, e5, e6, e7, e8, e9, some (.ptr ow), some (.int K), e12, e13, e14, e15, none, e17, e18, e19] x m2 = .ok (some (tieD t)) m3 := by
      simp -implicitDefEqProofs [how2, hf', d3, how3, ht]
    refine ⟨_, _, e, ts ++ [t], by simp, by simp [hl], fun z hz => ?_, ⟨hW.g.draw (by simp) B3, by rw [B3.rest sp hsp0]; exact hW.at1, how3, hW.n1, hW.n2, hW.n3⟩, B3.bag⟩
    rcases List.mem_append.mp hz with q | q
    · exact hin z q
    · have : z = t := by simpa using q
      rw [this]; exact htm
  · rintro acc m2 ⟨ts, rfl, hl, hin, hW, hB⟩
    exact OK.pure ⟨ts, rfl, by simpa using hl, hin, hW, hB⟩
/-- and their sides -/
theorem sides_ok {ts : List Tie} {e0 e2 e3 e4 e5 e6 e7 e8 e9 e11 e13 e14 e15 e16 e17 e18 e19 : Option D} {n u v : Int} (h : Wt [0] n u v m w sp ow W) (hb : Bag 0 m) (hl : ts.length ≤ 1000) :
    OK (compE endL (lstSrc (varE 12)) (nameT 19) yesT (binE (appE (consA (cE (.str "on")) (consA (cE (.str "back")) nilA)) mkLst) (appE (consA (varE 1) (consA (cE (.int 2)) nilA)) (callP 2 sem__law_draw)) idxD) [19] [e0, some (.ptr 0), e2, e3, e4, e5, e6, e7, e8, e9, some (.ptr ow), e11, some (.lst (ts.map tieD)), e13, e14, e15, e16, e17, e18, e19] m)
      fun d m' => ∃ bs : List Bool, d = .lst (bs.map fun b => .str (sideS b)) ∧ bs.length = ts.length ∧ Wt [0] n u v m' w sp ow W ∧ Bag 0 m' := by
  have how0 : ow ≠ 0 := fun e => h.n2 (by simp [e])
  have hsp0 : sp ≠ 0 := fun e => h.n1 (by simp [e])
  refine comp_ok (P := fun s m' => s.nx = (fun i _ => nxOf (some (ts.map tieD)) i) ∧ s.n = ts.length + 1 ∧ m' = m) (by simp -implicitDefEqProofs) ?_
  rintro s m' ⟨hs1, hs2, rfl⟩
  rw [hs1, hs2]
  refine (comp_inv (ts.map tieD) (fun i acc m2 => ∃ bs : List Bool, acc = (bs.map fun b => D.str (sideS b)) ∧ bs.length = i ∧ Wt [0] n u v m2 w sp ow W ∧ Bag 0 m2) (fun i acc m _ _ => rfl)
    (fun i acc m _ hI => by obtain ⟨ys, rfl, hl, _⟩ := hI; simp [hl]) (by simp; omega) (fun i x acc m2 hx hI => ?_) (ts.length + 1) 0 [] m' (by simp) (by simp) ⟨[], rfl, rfl, h, hb⟩).mono ?_
  · obtain ⟨bs, rfl, hl, hW, hB⟩ := hI
    obtain ⟨_, m3, d3, r, rfl, r0, r1, B3⟩ := draw_ok hB (many := 2) (by decide) (by decide)
    obtain ⟨dd, hd, hm⟩ := atI_in (xs := [D.str "on", D.str "back"]) (i := r) r0 (by exact r1)
    have e : stepOf (nameT 19) yesT (binE (appE (consA (cE (.str "on")) (consA (cE (.str "back")) nilA)) mkLst) (appE (consA (varE 1) (consA (cE (.int 2)) nilA)) (callP 2 sem__law_draw)) idxD) [e0, some (.ptr 0), e2, e3, e4, e5, e6, e7, e8, e9, some (.ptr ow), e11, some (.lst (ts.map tieD)), e13, e14, e15, e16, e17, e18, none] x m2 = .ok (some dd) m3 := by
      simp -implicitDefEqProofs [d3, hd]
    obtain ⟨b, rfl⟩ : ∃ b, dd = .str (sideS b) := by
      simp only [List.mem_cons, List.not_mem_nil, or_false] at hm
      rcases hm with rfl | rfl
      · exact ⟨true, rfl⟩
      · exact ⟨false, rfl⟩
    exact ⟨_, _, e, bs ++ [b], by simp, by simp [hl], ⟨hW.g.draw (by simp) B3, by rw [B3.rest sp hsp0]; exact hW.at1, by rw [B3.rest ow how0]; exact hW.at2, hW.n1, hW.n2, hW.n3⟩, B3.bag⟩
  · rintro acc m2 ⟨bs, rfl, hl, hW, hB⟩
    exact OK.pure ⟨bs, rfl, by simpa using hl, hW, hB⟩
theorem idx_map {α : Type} (f : α → D) (l : List α) {j : Nat} {x : α} (h : l[j]? = some x) : atI (l.map f) (j : Int) = some (f x) := by
  rw [atI_lit, List.getElem?_map, h]; rfl
/-- the way, the letters that are due: step by step -/
theorem way_ok {ts : List Tie} {bs : List Bool} {K : Nat} {e0 e1 e2 e3 e4 e5 e6 e7 e8 e9 e10 e14 e15 e16 e17 e18 e19 : Option D} (ht : ts.length = K) (hbs : bs.length = K) (hK : K ≤ 1000) :
    compE endL (rngSrc1 (varE 11)) (nameT 16) yesT (appE (consA (binE (binE (varE 12) (varE 16) idxD) (cE (.int 0)) idxD) (consA (binE (varE 13) (varE 16) idxD) nilA)) mkTup) [16] [e0, e1, e2, e3, e4, e5, e6, e7, e8, e9, e10, some (.int K), some (.lst (ts.map tieD)), some (.lst (bs.map fun b => .str (sideS b))), e14, e15, e16, e17, e18, e19] m = .ok (.lst ((ts.zip bs).map stepD)) m := by
  have c1 : (-4611686018427387904 : Int) ≤ K := by omega
  have c2 : (K : Int) < 4611686018427387904 := by omega
  have e : compLoop (fun i _ => rngNx 0 K i) (stepOf (nameT 16) yesT (appE (consA (binE (binE (varE 12) (varE 16) idxD) (cE (.int 0)) idxD) (consA (binE (varE 13) (varE 16) idxD) nilA)) mkTup) [e0, e1, e2, e3, e4, e5, e6, e7, e8, e9, e10, some (.int K), some (.lst (ts.map tieD)), some (.lst (bs.map fun b => .str (sideS b))), e14, e15, none, e17, e18, e19]) (K + 1) 0 [] m = .ok ((List.range K).map fun j => ((ts.zip bs)[j]?.map stepD).getD .non) m := by
    refine comp_zip (List.range K) (fun k => D.int (0 + (k : Int))) _ (fun i => rngNx_eq 0 K i) (by simp; omega) (fun j hj => ?_) (by simp)
    have hj' : j < K := List.mem_range.mp hj
    obtain ⟨t, ht'⟩ : ∃ t, ts[j]? = some t := ⟨_, List.getElem?_eq_getElem (by omega)⟩
    obtain ⟨b, hb'⟩ : ∃ b, bs[j]? = some b := ⟨_, List.getElem?_eq_getElem (by omega)⟩
    have i1 : atI (ts.map tieD) (j : Int) = some (.tup [.int t.1, .int t.2.1, .str t.2.2.1, .int t.2.2.2]) := idx_map tieD ts ht'
    have i2 := idx_map (fun b => D.str (sideS b)) bs hb'
    have hz : (ts.zip bs)[j]? = some (t, b) := by rw [List.getElem?_zip_eq_some]; exact ⟨ht', hb'⟩
    simp -implicitDefEqProofs [i1, i2, hz, stepD]
  have e2 : (List.range K).map (fun j => ((ts.zip bs)[j]?.map stepD).getD .non) = (ts.zip bs).map stepD := by
    apply List.ext_getElem?
    intro j
    rw [List.getElem?_map, List.getElem?_map]
    by_cases hj : j < K
    · rw [List.getElem?_range hj]
      have : j < (ts.zip bs).length := by simp; omega
      rw [List.getElem?_eq_getElem this]
      simp only [Option.map_some]
      rw [List.getElem?_eq_getElem this]
      rfl
    · rw [List.getElem?_eq_none (by simp; omega), List.getElem?_eq_none (by simp; omega)]
      rfl
  rw [e2] at e
  simp -implicitDefEqProofs [c1, c2, e]
theorem s_side (b : Bool) : ((sideS b : Str) == "on") = b := by cases b <;> decide +kernel
theorem due_ok {ts : List Tie} {bs : List Bool} {K : Nat} {e0 e1 e2 e3 e4 e5 e6 e7 e8 e9 e10 e14 e15 e16 e17 e18 e19 : Option D} (ht : ts.length = K) (hbs : bs.length = K) (hK : K ≤ 1000) (hn : ∀ t ∈ ts, Nm t.2.2.1) :
    compE endL (rngSrc1 (varE 11)) (nameT 16) yesT (binE (iteE (valT (binE (binE (varE 13) (varE 16) idxD) (cE (.str "on")) eqD)) (cE (.str "")) (cE (.str "^"))) (binE (binE (varE 12) (varE 16) idxD) (cE (.int 2)) idxD) addD) [16] [e0, e1, e2, e3, e4, e5, e6, e7, e8, e9, e10, some (.int K), some (.lst (ts.map tieD)), some (.lst (bs.map fun b => .str (sideS b))), e14, e15, e16, e17, e18, e19] m = .ok (.lst (((ts.zip bs).map letS).map .str)) m := by
  have c1 : (-4611686018427387904 : Int) ≤ K := by omega
  have c2 : (K : Int) < 4611686018427387904 := by omega
  have e : compLoop (fun i _ => rngNx 0 K i) (stepOf (nameT 16) yesT (binE (iteE (valT (binE (binE (varE 13) (varE 16) idxD) (cE (.str "on")) eqD)) (cE (.str "")) (cE (.str "^"))) (binE (binE (varE 12) (varE 16) idxD) (cE (.int 2)) idxD) addD) [e0, e1, e2, e3, e4, e5, e6, e7, e8, e9, e10, some (.int K), some (.lst (ts.map tieD)), some (.lst (bs.map fun b => .str (sideS b))), e14, e15, none, e17, e18, e19]) (K + 1) 0 [] m = .ok ((List.range K).map fun j => ((ts.zip bs)[j]?.map fun s => D.str (letS s)).getD .non) m := by
    refine comp_zip (List.range K) (fun k => D.int (0 + (k : Int))) _ (fun i => rngNx_eq 0 K i) (by simp; omega) (fun j hj => ?_) (by simp)
    have hj' : j < K := List.mem_range.mp hj
    obtain ⟨t, ht'⟩ : ∃ t, ts[j]? = some t := ⟨_, List.getElem?_eq_getElem (by omega)⟩
    obtain ⟨b, hb'⟩ : ∃ b, bs[j]? = some b := ⟨_, List.getElem?_eq_getElem (by omega)⟩
    have i1 : atI (ts.map tieD) (j : Int) = some (.tup [.int t.1, .int t.2.1, .str t.2.2.1, .int t.2.2.2]) := idx_map tieD ts ht'
    have i2 := idx_map (fun b => D.str (sideS b)) bs hb'
    have hz : (ts.zip bs)[j]? = some (t, b) := by rw [List.getElem?_zip_eq_some]; exact ⟨ht', hb'⟩
    have hle := (hn t (List.mem_of_getElem? ht')).le
    have z0 : ("" : Str).length = 0 := by decide +kernel
    have z1 : ("" : Str).length + t.2.2.1.length ≤ 16777216 := by rw [z0]; omega
    have z2 : ("^" : Str).length + t.2.2.1.length ≤ 16777216 := by rw [s_on.2.2]; omega
    have z3 : ("" : Str) ++ t.2.2.1 = t.2.2.1 := ch_ext (by rw [ch_app]; rfl)
    have hs := s_side b
    cases b with
    | true => simp -implicitDefEqProofs [i1, i2, hz, hs, z1, z3, letS]
    | false => simp -implicitDefEqProofs [i1, i2, hz, hs, z2, letS]
  have e2 : (List.range K).map (fun j => ((ts.zip bs)[j]?.map fun s => D.str (letS s)).getD .non) = ((ts.zip bs).map letS).map .str := by
    apply List.ext_getElem?
    intro j
    rw [List.getElem?_map, List.map_map, List.getElem?_map]
    by_cases hj : j < K
    · rw [List.getElem?_range hj]
      have : j < (ts.zip bs).length := by simp; omega
      rw [List.getElem?_eq_getElem this]
      simp only [Option.map_some]
      rw [List.getElem?_eq_getElem this]
      rfl
    · rw [List.getElem?_eq_none (by simp; omega), List.getElem?_eq_none (by simp; omega)]
      rfl
  rw [e2] at e
  simp -implicitDefEqProofs [c1, c2, e]
theorem steps_ok1 (ss : List Stp) : okDs 1 (ss.map stepD) = true := by
  rw [okDs_iff]
  intro d hd
  obtain ⟨⟨t, b⟩, _, rfl⟩ := List.mem_map.mp hd
  show (true && (PyData.strOk (sideS b) && true)) = true
  cases b <;> decide +kernel
end
end LW

set_option maxHeartbeats 8000000
namespace LW
open PySem PySem.Spec L2 DL
open PyProof.Rows hiding St

theorem ties_ok1 {ts : List Tie} (h : ∀ t ∈ ts, Nm t.2.2.1) : okDs 1 (ts.map tieD) = true := by
  rw [okDs_iff]
  intro d hd
  obtain ⟨t, ht, rfl⟩ := List.mem_map.mp hd
  have : PyData.strOk t.2.2.1 = true := by
    unfold PyData.strOk
    rw [← Array.all_toList, List.all_eq_true]
    intro c hc
    have := (h t ht).low c hc
    simp
    omega
  simp [tieD, okD, okDs, this]
theorem coming_ne {m : MS} (a : Int) (W : Web) : okD 2 (.lst [.int a, spotD W, bondD W]) = true := by
  unfold spotD bondD
  split <;> split <;> rfl
theorem wt_push {P : List Nat} {n u v : Int} {m : MS} {w sp ow : Nat} {W : Web} (h : Wt P n u v m w sp ow W) (x : Cell) : Wt P n u v (m ++ [x]) w sp ow W :=
  ⟨(h.g.push x).sub fun q hq => List.mem_cons_of_mem _ hq, by rw [List.getElem?_append_left (lt_of h.at1)]; exact h.at1, by rw [List.getElem?_append_left (lt_of h.at2)]; exact h.at2, h.n1, h.n2, h.n3⟩
theorem bag_push {m : MS} (h : Bag 0 m) (x : Cell) : Bag 0 (m ++ [x]) := by
  obtain ⟨cs, k, c, st, q, z, r⟩ := h
  exact ⟨cs, k, c, st, q, by rw [List.getElem?_append_left (bag_lt z)]; exact z, r⟩
theorem take_app {α : Type} (l r : List α) {k : Nat} (h : k = l.length) : (l ++ r).take k = l := by subst h; simp
theorem hlaw : ∀ ns : List Int, ns.length ≤ 63 → ∃ ms, sem_law [.ro (ns.map D.int)] [] = .ok (.bl true) ms := by
  intro ns hl
  suffices h : OK (sem_law [.ro (ns.map D.int)] []) fun d _ => d = .bl true by
    obtain ⟨d, ms, e, rfl⟩ := h
    exact ⟨ms, e⟩
  rw [sem_law_eq]
  refine run_ok ?_
  unfold B_law
  obtain ⟨_, m0, e0, rfl, _, hb⟩ := bag_ok (ms := []) hl
  have hb : Bag 0 m0 := hb
  have e0 : sem__law_bag [.ro (ns.map D.int)] [] = .ok (.ptr 0) m0 := e0
  have hz : ns.length ≤ 16777216 := by omega
  obtain ⟨S, hS⟩ : ∃ S : D, S = .ro (ns.map D.int) := ⟨_, rfl⟩
  refine seq_nx (env' := [some S, some (.ptr 0), none, none, none, none, none, none, none, none, none, none, none, none, none, none, none, none, none, none]) (ms1 := m0) (by simp -implicitDefEqProofs [e0, hS]) ?_
  obtain ⟨_, m1, d1, u, rfl, u0, u1, B1⟩ := draw_ok hb (many := 2) (by decide) (by decide)
  refine seq_nx (env' := [some S, some (.ptr 0), some (.bl (u == 1)), none, none, none, none, none, none, none, none, none, none, none, none, none, none, none, none, none]) (ms1 := m1) (by simp -implicitDefEqProofs [d1]) ?_
  have hdiv : ∃ n : Nat, n ≤ 5 ∧ (1 + (if (4 : Int) < (ns.length : Int) / 4 then 4 else (ns.length : Int) / 4)) = (n : Int) := by
    refine ⟨(1 + (if (4 : Int) < (ns.length : Int) / 4 then 4 else (ns.length : Int) / 4)).toNat, ?_, ?_⟩ <;> split <;> omega
  obtain ⟨N, hN5, hN⟩ := hdiv
  refine seq_ok (P := fun env m => True) (for_ok (P := fun s m' => s.nx = (fun i _ => rngNx 0 N i) ∧ s.n = N + 1 ∧ m' = m1) ?_ ?_) (fun env m _ => by simp -implicitDefEqProofs)
  · have c1 : (-4611686018427387904 : Int) ≤ N := by omega
    have c2 : (N : Int) < 4611686018427387904 := by omega
    simp -implicitDefEqProofs [hS, hN, c1, c2, hz]
  rintro s m' ⟨hs1, hs2, rfl⟩
  rw [hs1, hs2]
  refine (for_inv ((List.range N).map fun (k : Nat) => D.int (0 + (k : Int))) (fun _ env m => (∃ e3 e4 e5 e6 e7 e8 e9 e10 e11 e12 e13 e14 e15 e16 e17 e18 e19, env = [some S, some (.ptr 0), some (.bl (u == 1)), e3, e4, e5, e6, e7, e8, e9, e10, e11, e12, e13, e14, e15, e16, e17, e18, e19]) ∧ Bag 0 m) (fun _ _ => False) (fun _ _ => False) (fun i _ _ _ _ => rngNx_eq 0 N i) (fun i x env m hx hI => turn_name ?_) (N + 1) 0 _ m' (by simp) (by simp) ⟨⟨_, _, _, _, _, _, _, _, _, _, _, _, _, _, _, _, _, rfl⟩, B1.bag⟩).mono ?_
  · obtain ⟨⟨e3, e4, e5, e6, e7, e8, e9, e10, e11, e12, e13, e14, e15, e16, e17, e18, e19, rfl⟩, hB⟩ := hI
    show OK (seqS _ _ [some S, some (.ptr 0), some (.bl (u == 1)), some x, e4, e5, e6, e7, e8, e9, e10, e11, e12, e13, e14, e15, e16, e17, e18, e19] m) _
    obtain ⟨_, m2, d2, r, rfl, r0, r1, B2⟩ := draw_ok hB (many := 8) (by decide) (by decide)
    refine seq_nx (env' := [some S, some (.ptr 0), some (.bl (u == 1)), some x, some (.int r), e5, e6, e7, e8, e9, e10, e11, e12, e13, e14, e15, e16, e17, e18, e19]) (ms1 := m2) (by simp -implicitDefEqProofs [d2]) ?_
    obtain ⟨_, m3, d3, xs, rfl, hx4, hxn, B3⟩ := names_ok B2.bag
    refine seq_nx (env' := [some S, some (.ptr 0), some (.bl (u == 1)), some x, some (.int r), some (.lst (xs.map .str)), e6, e7, e8, e9, e10, e11, e12, e13, e14, e15, e16, e17, e18, e19]) (ms1 := m3) (by simp -implicitDefEqProofs [d3]) ?_
    obtain ⟨j, hj0, hj3, hj⟩ : ∃ j : Int, 0 ≤ j ∧ j < 3 ∧ (if r - 5 > 0 then r - 5 else 0) = j := ⟨_, by split <;> omega, by split <;> omega, rfl⟩
    obtain ⟨dd, hd, hm⟩ := atI_in (xs := [D.tup [.int 5, .int 9], D.tup [.int 20, .int 40], D.tup [.int 60, .int 201]]) (i := j) hj0 (by exact hj3)
    obtain ⟨A, Bn, rfl, hA, hBn⟩ : ∃ A Bn : Int, dd = .tup [.int A, .int Bn] ∧ (1 ≤ A ∧ A ≤ 60) ∧ (1 ≤ Bn ∧ Bn ≤ 201) := by
      simp only [List.mem_cons, List.not_mem_nil, or_false] at hm
      rcases hm with rfl | rfl | rfl <;> exact ⟨_, _, rfl, by decide, by decide⟩
    simp only [gt_iff_lt] at hj
    have hj' : (if 0 < r - 5 then r - 5 else 0) = j := hj
    refine seq_nx (env' := [some S, some (.ptr 0), some (.bl (u == 1)), some x, some (.int r), some (.lst (xs.map .str)), some (.int A), some (.int Bn), e8, e9, e10, e11, e12, e13, e14, e15, e16, e17, e18, e19]) (ms1 := m3) (by
      simp -implicitDefEqProofs
      first
        | simp -implicitDefEqProofs [hj', hd]
        | (rw [show (if 5 < r then r - 5 else 0) = j by rw [← hj']; split <;> split <;> omega]; simp -implicitDefEqProofs [hd])) ?_
    obtain ⟨_, m4, d4, a, rfl, a0, a1, B4⟩ := draw_ok B3.bag (many := A) (by omega) (by omega)
    obtain ⟨a, rfl⟩ := Int.eq_ofNat_of_zero_le a0
    obtain ⟨_, m5, d5, b, rfl, b0, b1, B5⟩ := draw_ok B4.bag (many := Bn) (by omega) (by omega)
    obtain ⟨b, rfl⟩ := Int.eq_ofNat_of_zero_le b0
    obtain ⟨_, m6, d6, w, sp, ow, W, rfl, hW⟩ := web_ok (xs := xs) (many := 1 + a) (ties := b) B5.bag hx4 hxn (by omega) (by omega)
    have d6' : sem__law_web [.ptr 0, .lst (xs.map .str), .int (1 + (a : Int)), .int b] m5 = .ok (.tup [.ptr w, .ptr sp, .ptr ow]) m6 := by
      rw [← d6]; simp
    refine seq_nx (env' := [some S, some (.ptr 0), some (.bl (u == 1)), some x, some (.int r), some (.lst (xs.map .str)), some (.int A), some (.int Bn), some (.ptr w), some (.ptr sp), some (.ptr ow), e11, e12, e13, e14, e15, e16, e17, e18, e19]) (ms1 := m6) (by simp -implicitDefEqProofs [d4, d5, d6']) ?_
    obtain ⟨⟨U, V, T, hU, hV⟩, hB6, hlp, hlt, hmk⟩ := hW
    have how0 : ow ≠ 0 := fun e => T.n2 (by simp [e])
    have hsp0 : sp ≠ 0 := fun e => T.n1 (by simp [e])
    have drawT : ∀ {ma mb : MS} {n' : Int} {W' : Web}, Wt [0] n' U V ma w sp ow W' → Bg 0 ma mb → Wt [0] n' U V mb w sp ow W' := fun h B =>
      ⟨h.g.draw (by simp) B, by rw [B.rest sp hsp0]; exact h.at1, by rw [B.rest ow how0]; exact h.at2, h.n1, h.n2, h.n3⟩
    -- how many steps
    obtain ⟨_, m7, d7, i1, rfl, i10, i11, B7⟩ := draw_ok hB6 (many := 3) (by decide) (by decide)
    obtain ⟨f, hf, hf1⟩ : ∃ f : Int, (f = 0 ∨ f = 1) ∧ (if 4 < r then (1 : Int) else 0) = f := ⟨_, by split <;> simp, rfl⟩
    obtain ⟨dd2, hd2, hm2⟩ := atI_in (xs := [D.int 9, D.int 60, D.int 401]) (i := i1 * f) (by rcases hf with rfl | rfl <;> omega) (by rcases hf with rfl | rfl <;> simp <;> omega)
    obtain ⟨K0, rfl, hK0⟩ : ∃ K0 : Int, dd2 = .int K0 ∧ (1 ≤ K0 ∧ K0 ≤ 401) := by
      simp only [List.mem_cons, List.not_mem_nil, or_false] at hm2
      rcases hm2 with rfl | rfl | rfl <;> exact ⟨_, rfl, by decide⟩
    obtain ⟨_, m8, d8, c, rfl, c0, c1, B8⟩ := draw_ok B7.bag (many := K0) (by omega) (by omega)
    have T8 := drawT (drawT T B7) B8
    have ow8 := T8.at2
    have onil : neG (.ptr ow) (.lst []) m8 = .ok (.bl (!W.ts.isEmpty)) m8 := by
      have := (eqG_nil (a := .ptr ow) (ds := W.ts.map tieD) (ms := m8) (by simp only [rdD, ow8]) (ties_ok1 T8.g.s.nm) (by decide)).2
      rw [this, List.isEmpty_map]
    obtain ⟨K, hK, hKe, hKz⟩ : ∃ K : Nat, c * (if W.ts.isEmpty = false then (1 : Int) else 0) = K ∧ K ≤ 400 ∧ (K = 0 ∨ 1 ≤ W.ts.length) := by
      obtain ⟨c, rfl⟩ := Int.eq_ofNat_of_zero_le c0
      cases hq : W.ts with
      | nil => exact ⟨0, by simp, by omega, .inl rfl⟩
      | cons t l => exact ⟨c, by simp, by omega, .inr (by simp)⟩
    have hcn : c.natAbs < 1152921504606846976 := by omega
    have hin : i1.natAbs < 1152921504606846976 := by omega
    refine seq_nx (env' := [some S, some (.ptr 0), some (.bl (u == 1)), some x, some (.int r), some (.lst (xs.map .str)), some (.int A), some (.int Bn), some (.ptr w), some (.ptr sp), some (.ptr ow), some (.int K), e12, e13, e14, e15, e16, e17, e18, e19]) (ms1 := m8) (by
      rw [← hK]
      simp -implicitDefEqProofs only [← hf1] at hd2
      simp -implicitDefEqProofs [d7, hd2, d8, onil, hcn, hin]) ?_
    -- the steps
    refine seq_ok (P := fun env m9 => ∃ ts : List Tie, env = [some S, some (.ptr 0), some (.bl (u == 1)), some x, some (.int r), some (.lst (xs.map .str)), some (.int A), some (.int Bn), some (.ptr w), some (.ptr sp), some (.ptr ow), some (.int K), some (.lst (ts.map tieD)), e13, e14, e15, e16, e17, e18, e19] ∧ ts.length = K ∧ (∀ t ∈ ts, t ∈ W.ts) ∧ Wt [0] 500 U V m9 w sp ow W ∧ Bag 0 m9) (set_ok ((some_ok T8 B8.bag (by omega) hKz).mono fun d m9 ⟨ts, e, h1, h2, h3, h4⟩ => ⟨rfl, ts, by rw [e]; rfl, h1, h2, h3, h4⟩)) ?_
    rintro env m9 ⟨ts, rfl, hts, htin, T9, hB9⟩
    refine seq_ok (P := fun env m10 => ∃ bs : List Bool, env = [some S, some (.ptr 0), some (.bl (u == 1)), some x, some (.int r), some (.lst (xs.map .str)), some (.int A), some (.int Bn), some (.ptr w), some (.ptr sp), some (.ptr ow), some (.int K), some (.lst (ts.map tieD)), some (.lst (bs.map fun b => .str (sideS b))), e14, e15, e16, e17, e18, e19] ∧ bs.length = K ∧ Wt [0] 500 U V m10 w sp ow W ∧ Bag 0 m10) (set_ok ((sides_ok T9 hB9 (by omega)).mono fun d m10 ⟨bs, e, h1, h2, h3⟩ => ⟨rfl, bs, by rw [e]; rfl, by omega, h2, h3⟩)) ?_
    rintro env m10 ⟨bs, rfl, hbs, T10, hB10⟩
    have hwy := fun (e14 e15 e16 e17 e18 e19 : Option D) (e4 : Option D) (mm : MS) => way_ok (m := mm) (e0 := some S) (e1 := some (.ptr 0)) (e2 := some (.bl (u == 1))) (e3 := some x) (e4 := e4) (e5 := some (.lst (xs.map .str))) (e6 := some (.int A)) (e7 := some (.int Bn)) (e8 := some (.ptr w)) (e9 := some (.ptr sp)) (e10 := some (.ptr ow)) (e14 := e14) (e15 := e15) (e16 := e16) (e17 := e17) (e18 := e18) (e19 := e19) hts hbs (by omega)
    have hdu := fun (e14 e15 e16 e17 e18 e19 : Option D) (e4 : Option D) (mm : MS) => due_ok (m := mm) (e0 := some S) (e1 := some (.ptr 0)) (e2 := some (.bl (u == 1))) (e3 := some x) (e4 := e4) (e5 := some (.lst (xs.map .str))) (e6 := some (.int A)) (e7 := some (.int Bn)) (e8 := some (.ptr w)) (e9 := some (.ptr sp)) (e10 := some (.ptr ow)) (e14 := e14) (e15 := e15) (e16 := e16) (e17 := e17) (e18 := e18) (e19 := e19) hts hbs (by omega) (fun t ht => T10.g.s.nm t (htin t ht))
    generalize hss : ts.zip bs = ss at hwy hdu
    have hsl : ss.length = K := by rw [← hss]; simp; omega
    have hsin : ∀ s ∈ ss, s.1 ∈ W.ts := fun s hs => htin _ (by rw [← hss] at hs; exact (List.of_mem_zip (a := s.1) (b := s.2) hs).1)
    refine seq_nx (env' := [some S, some (.ptr 0), some (.bl (u == 1)), some x, some (.lst (ss.map stepD)), some (.lst (xs.map .str)), some (.int A), some (.int Bn), some (.ptr w), some (.ptr sp), some (.ptr ow), some (.int K), some (.lst (ts.map tieD)), some (.lst (bs.map fun b => .str (sideS b))), e14, e15, e16, e17, e18, e19]) (ms1 := m10) (by unfold setS; rw [hwy]; rfl) ?_
    refine seq_nx (env' := [some S, some (.ptr 0), some (.bl (u == 1)), some x, some (.lst (ss.map stepD)), some (.lst (xs.map .str)), some (.int A), some (.int Bn), some (.ptr w), some (.ptr sp), some (.ptr ow), some (.int K), some (.lst (ts.map tieD)), some (.lst (bs.map fun b => .str (sideS b))), some (.lst ((ss.map letS).map .str)), e15, e16, e17, e18, e19]) (ms1 := m10) (by unfold setS; rw [hdu]; rfl) ?_
    clear hwy hdu
    -- what comes next
    obtain ⟨m11, e11', T11, S11⟩ := coming_ok T10 (by rw [hlp]; omega) (by rw [hlt]; omega) (by omega) (by rw [hmk]; simp)
    have hB11 : Bag 0 m11 := S11.bag (by simp) hB10
    rw [hmk] at e11' T11
    have hs0 : ({ W with mks := ([] : List Stand) ++ [W.stand] } : Web) = { W with mks := [W.stand] } := rfl
    rw [hs0] at T11
    refine seq_nx (env' := [some S, some (.ptr 0), some (.bl (u == 1)), some x, some (.lst (ss.map stepD)), some (.lst (xs.map .str)), some (.int A), some (.int Bn), some (.ptr w), some (.ptr sp), some (.ptr ow), some (.int K), some (.lst (ts.map tieD)), some (.lst (bs.map fun b => .str (sideS b))), some (.lst ((ss.map letS).map .str)), some (.lst [.int 1, spotD W, bondD W]), e16, e17, e18, e19]) (ms1 := m11) (by simp -implicitDefEqProofs [e11']) ?_
    obtain ⟨Lt, hLt⟩ : ∃ Lt : List D, Lt = ts.map tieD := ⟨_, rfl⟩
    obtain ⟨Lb, hLb⟩ : ∃ Lb : List D, Lb = bs.map fun b => .str (sideS b) := ⟨_, rfl⟩
    rw [← hLt, ← hLb]
    -- asked twice
    refine seq_ok (P := fun env mz => ∃ e16 e17 e18 e19, env = [some S, some (.ptr 0), some (.bl (u == 1)), some x, some (.lst (ss.map stepD)), some (.lst (xs.map .str)), some (.int A), some (.int Bn), some (.ptr w), some (.ptr sp), some (.ptr ow), some (.int K), some (.lst Lt), some (.lst Lb), some (.lst ((ss.map letS).map .str)), some (.lst [.int 1, spotD W, bondD W]), e16, e17, e18, e19] ∧ Bag 0 mz ∧ ∃ W', Gw [0, ow] 600 U V mz w W' ∧ (∃ more, W'.ts = W.ts ++ more) ∧ mz[ow]? = some (.lst (W.ts.map tieD))) (for_ok (P := fun s m' => s.nx = (fun i _ => rngNx 0 2 i) ∧ s.n = 3 ∧ m' = m11) (by simp -implicitDefEqProofs) ?_) ?_
    · rintro s m' ⟨hs1, hs2, rfl⟩
      rw [hs1, hs2]
      refine (for_inv ((List.range 2).map fun (k : Nat) => D.int (0 + (k : Int))) (fun i env mz => ∃ e16 e17 e18 e19, env = [some S, some (.ptr 0), some (.bl (u == 1)), some x, some (.lst (ss.map stepD)), some (.lst (xs.map .str)), some (.int A), some (.int Bn), some (.ptr w), some (.ptr sp), some (.ptr ow), some (.int K), some (.lst Lt), some (.lst Lb), some (.lst ((ss.map letS).map .str)), some (.lst [.int 1, spotD W, bondD W]), e16, e17, e18, e19] ∧ Bag 0 mz ∧ ∃ W', Gw [0, ow] 600 U V mz w W' ∧ (∃ more, W'.ts = W.ts ++ more) ∧ mz[ow]? = some (.lst (W.ts.map tieD)) ∧ (i = 0 → Wt [0] 500 U V mz w sp ow { W with mks := [W.stand] })) (fun _ _ => False) (fun _ _ => False) (fun i _ _ _ _ => rngNx_eq 0 2 i) (fun i y env mz hy hI => turn_name ?_) 3 0 _ m' (by simp) (by simp) ⟨e16, e17, e18, e19, rfl, hB11, _, (T11.g.sub (by intro q hq; simp at hq ⊢; rcases hq with rfl | rfl <;> simp)).mono (by decide), ⟨[], by simp⟩, T11.at2, fun _ => T11⟩).mono ?_
      · obtain ⟨e16, e17, e18, e19, rfl, hBz, W', Gz, ⟨more, hmore⟩, howz, hT⟩ := hI
        have hi : i < 2 := by
          have := (List.getElem?_eq_some_iff.mp hy).1
          simpa using this
        have hyv : y = .int (i : Int) := by
          rw [List.getElem?_map, List.getElem?_range hi] at hy
          simpa using hy.symm
        subst hyv
        show OK (seqS _ _ [some S, some (.ptr 0), some (.bl (u == 1)), some x, some (.lst (ss.map stepD)), some (.lst (xs.map .str)), some (.int A), some (.int Bn), some (.ptr w), some (.ptr sp), some (.ptr ow), some (.int K), some (.lst Lt), some (.lst Lb), some (.lst ((ss.map letS).map .str)), some (.lst [.int 1, spotD W, bondD W]), some (.int i), e17, e18, e19] mz) _
        have hslz : ss.length ≤ 16777216 := by omega
        refine seq_nx (env' := [some S, some (.ptr 0), some (.bl (u == 1)), some x, some (.lst (ss.map stepD)), some (.lst (xs.map .str)), some (.int A), some (.int Bn), some (.ptr w), some (.ptr sp), some (.ptr ow), some (.int K), some (.lst Lt), some (.lst Lb), some (.lst ((ss.map letS).map .str)), some (.lst [.int 1, spotD W, bondD W]), some (.int i), some (.lst (ss.map stepD)), e18, e19]) (ms1 := mz) (by simp -implicitDefEqProofs [hslz]) ?_
        have hsp := spelled_ok (ss := ss) Gz (fun s hs => by rw [hmore]; exact List.mem_append_left _ (hsin s hs)) (by omega)
        obtain ⟨Ls, hLs⟩ : ∃ Ls : List Str, Ls = ss.map letS := ⟨_, rfl⟩
        rw [← hLs] at hsp ⊢
        have hLsl : Ls.length ≤ 1000 := by rw [hLs]; simp; omega
        refine seq_nx (env' := [some S, some (.ptr 0), some (.bl (u == 1)), some x, some (.lst (ss.map stepD)), some (.lst (xs.map .str)), some (.int A), some (.int Bn), some (.ptr w), some (.ptr sp), some (.ptr ow), some (.int K), some (.lst Lt), some (.lst Lb), some (.lst (Ls.map .str)), some (.lst [.int 1, spotD W, bondD W]), some (.int i), some (.lst (ss.map stepD)), some (.ptr mz.length), e19]) (ms1 := mz ++ [.lst (Ls.map .str)]) (by
          cases hu : (u == 1) with
          | true => simp -implicitDefEqProofs [hsp]
          | false => simp -implicitDefEqProofs [hsp]) ?_
        have hq0 : mz.length ≠ 0 := fun e => by obtain ⟨_, _, _, _, _, h, _⟩ := hBz; have := bag_lt h; omega
        have howl := lt_of howz
        have hat : (mz ++ [Cell.lst (Ls.map .str)])[mz.length]? = some (.lst (Ls.map .str)) := by simp
        have hset : ∀ y, (mz ++ [Cell.lst (Ls.map .str)]).set mz.length (.lst y) = mz ++ [.lst y] := fun y => by simp
        have hal := alike_texts (k := 2) hat hLsl
        have hne : neG (.lst (ss.map stepD)) (.lst (ss.map stepD)) (mz ++ [.lst (Ls.map .str)]) = .ok (.bl false) (mz ++ [.lst (Ls.map .str)]) := (eqG_self (k := 2) (a := .lst (ss.map stepD)) (b := .lst (ss.map stepD)) rfl (steps_ok1 ss) (by decide)).2
        refine seq_nx (env' := [some S, some (.ptr 0), some (.bl (u == 1)), some x, some (.lst (ss.map stepD)), some (.lst (xs.map .str)), some (.int A), some (.int Bn), some (.ptr w), some (.ptr sp), some (.ptr ow), some (.int K), some (.lst Lt), some (.lst Lb), some (.lst (Ls.map .str)), some (.lst [.int 1, spotD W, bondD W]), some (.int i), some (.lst (ss.map stepD)), some (.ptr mz.length), e19]) (ms1 := mz ++ [.lst (Ls.map .str)]) (by simp -implicitDefEqProofs [hal, hne]) ?_
        have hLs2 : Ls.length < 16777216 := by omega
        refine seq_nx (env' := [some S, some (.ptr 0), some (.bl (u == 1)), some x, some (.lst (ss.map stepD)), some (.lst (xs.map .str)), some (.int A), some (.int Bn), some (.ptr w), some (.ptr sp), some (.ptr ow), some (.int K), some (.lst Lt), some (.lst Lb), some (.lst (Ls.map .str)), some (.lst [.int 1, spotD W, bondD W]), some (.int i), some (.lst (ss.map stepD)), some (.ptr mz.length), e19]) (ms1 := mz ++ [.lst (Ls.map .str ++ [.str "a"])]) (by simp -implicitDefEqProofs [hat, hset, hLs2]) ?_
        clear hat hset hal hne
        have hBp : Bag 0 (mz ++ [.lst (Ls.map .str ++ [.str "a"])]) := bag_push hBz _
        have Gp : Gw [0, ow] 600 U V (mz ++ [.lst (Ls.map .str ++ [.str "a"])]) w W' := (Gz.push _).sub fun q hq => List.mem_cons_of_mem _ hq
        have howp : (mz ++ [Cell.lst (Ls.map .str ++ [.str "a"])])[ow]? = some (.lst (W.ts.map tieD)) := by rw [List.getElem?_append_left howl]; exact howz
        have hTp : i = 0 → Wt [0] 500 U V (mz ++ [.lst (Ls.map .str ++ [.str "a"])]) w sp ow { W with mks := [W.stand] } := fun h => wt_push (hT h) _
        clear hT Gz howz hBz hsp howl
        generalize hpt : D.ptr mz.length = PT
        generalize mz ++ [Cell.lst (Ls.map .str ++ [.str "a"])] = mp at hBp Gp howp hTp
        have htl : W.ts.length ≤ 16777216 := by omega
        by_cases hi0 : i = 0
        · subst hi0
          have Tp := hTp rfl
          obtain ⟨mq, eq, Tq, Sq⟩ := coming_ok Tp (by simp only [hlp]; omega) (by simp only [hlt]; omega) (by simp only [hlp]; omega) (by simp)
          have hBq : Bag 0 mq := Sq.bag (by simp) hBp
          have owq := Tq.at2
          have spq := Tq.at1
          simp only at eq owq spq
          have hsd : spotD { W with mks := [W.stand] } = spotD W := rfl
          have hbd : bondD { W with mks := [W.stand] } = bondD W := rfl
          rw [hsd, hbd] at eq
          have hne2 : neG (.lst [.int 2, spotD W, bondD W]) (.lst [.int 2, spotD W, bondD W]) mq = .ok (.bl false) mq := (eqG_self (k := 2) (a := .lst [.int 2, spotD W, bondD W]) (b := .lst [.int 2, spotD W, bondD W]) rfl (coming_ne (m := mq) 2 W) (by decide)).2
          have eq' : sem__law_coming [.ptr w, .ptr sp, .ptr ow] mp = .ok (.lst [.int 2, spotD W, bondD W]) mq := by rw [eq]; rfl
          have hcut : cutD [D.int 1, spotD W, bondD W] (some 1) none = [spotD W, bondD W] := rfl
          generalize spotD W = sd at eq' hne2 hcut
          generalize bondD W = bd at eq' hne2 hcut
          refine seq_nx (env' := [some S, some (.ptr 0), some (.bl (u == 1)), some x, some (.lst (ss.map stepD)), some (.lst (xs.map .str)), some (.int A), some (.int Bn), some (.ptr w), some (.ptr sp), some (.ptr ow), some (.int K), some (.lst Lt), some (.lst Lb), some (.lst (Ls.map .str)), some (.lst [.int 1, sd, bd]), some (.int (0 : Nat)), some (.lst (ss.map stepD)), some PT, e19]) (ms1 := mq) (by simp -implicitDefEqProofs [eq', hcut, hne2]) ?_
          -- a tie more, perhaps
          have fin : ∀ {mm : MS} {W2 : Web} (e : (∃ more, W2.ts = W.ts ++ more)), Gw [0, ow] 600 U V mm w W2 → Bag 0 mm → mm[ow]? = some (.lst (W.ts.map tieD)) → ∃ W', Gw [0, ow] 600 U V mm w W' ∧ (∃ more, W'.ts = W.ts ++ more) ∧ mm[ow]? = some (.lst (W.ts.map tieD)) ∧ (0 + 1 = 0 → Wt [0] 500 U V mm w sp ow { W with mks := [W.stand] }) := fun e G _ h => ⟨_, G, e, h, fun z => nomatch z⟩
          have Gq : Gw [0, ow] 600 U V mq w { W with mks := [W.stand] ++ [Web.stand { W with mks := [W.stand] }] } := (Tq.g.sub (by intro q hq; simp at hq ⊢; rcases hq with rfl | rfl <;> simp)).mono (by decide)
          by_cases hc : W.ts.length < 200
          · have hc' : (W.ts.length : Int) < 200 := by omega
            obtain ⟨_, mr, dr, y, rfl, y0, y1, Br⟩ := draw_ok hBq (many := 2) (by decide) (by decide)
            have owr : mr[ow]? = some (.lst (W.ts.map tieD)) := by rw [Br.rest ow how0]; exact owq
            have spr : mr[sp]? = some (.lst (W.ps.map .int)) := by rw [Br.rest sp hsp0]; exact spq
            by_cases hy1 : y = 1
            · subst hy1
              obtain ⟨p, hp, hpm⟩ := atL (l := W.ps) (i := 0) (by decide) (by omega) D.int
              obtain ⟨q, hq, hqm⟩ : ∃ q, atI (W.ps.map D.int) (-1) = some (.int q) ∧ q ∈ W.ps := by
                have hlen : 0 < W.ps.length := by omega
                refine ⟨W.ps[W.ps.length - 1], ?_, List.getElem_mem _⟩
                rw [atI_map]
                unfold atI ixN
                rw [if_neg (by decide), if_pos (by omega), show (-1 + (W.ps.length : Int)).toNat = W.ps.length - 1 by omega]
                simp [List.getElem?_eq_getElem (show W.ps.length - 1 < W.ps.length by omega)]
              obtain ⟨z, hz', hzm⟩ := atL (l := xs) (i := 0) (by decide) (by omega) D.str
              have Gr : Gw [0, ow] 600 U V mr w { W with mks := [W.stand] ++ [Web.stand { W with mks := [W.stand] }] } := Gq.draw (by simp) Br
              have Gr' : Gw [0, ow] 599 U V mr w { W with mks := [W.stand] ++ [Web.stand { W with mks := [W.stand] }] } := Gr.low (T.g.s.mono (by decide))
              obtain ⟨ms, es, Gs, Ss⟩ := Gr'.tie (p := p) (q := q) (x := z) hpm hqm (hxn z hzm) (by simp only [hlt]; omega)
              obtain ⟨oa, ob, oc, ho⟩ := Gr.obj
              refine OK_of (a := (Fl.nx, [some S, some (.ptr 0), some (.bl (u == 1)), some x, some (.lst (ss.map stepD)), some (.lst (xs.map .str)), some (.int A), some (.int Bn), some (.ptr w), some (.ptr sp), some (.ptr ow), some (.int K), some (.lst Lt), some (.lst Lb), some (.lst (Ls.map .str)), some (.lst [.int 1, sd, bd]), some (.int (0 : Nat)), some (.lst (ss.map stepD)), some PT, e19])) (m := ms) (by
                rw [atI_0] at hp hz'
                simp -implicitDefEqProofs [owq, htl, hc, hc', dr, spr, hp, hq, hz', ho, es]) ?_
              exact ⟨_, _, _, _, rfl, Ss.bag (by simp) Br.bag, fin ⟨_, rfl⟩ Gs (Ss.bag (by simp) Br.bag) (Ss.at (by simp) owr)⟩
            · have hy1' : (y == 1) = false := by simpa using hy1
              refine OK_of (a := (Fl.nx, [some S, some (.ptr 0), some (.bl (u == 1)), some x, some (.lst (ss.map stepD)), some (.lst (xs.map .str)), some (.int A), some (.int Bn), some (.ptr w), some (.ptr sp), some (.ptr ow), some (.int K), some (.lst Lt), some (.lst Lb), some (.lst (Ls.map .str)), some (.lst [.int 1, sd, bd]), some (.int (0 : Nat)), some (.lst (ss.map stepD)), some PT, e19])) (m := mr) (by simp -implicitDefEqProofs [owq, htl, hc, hc', dr, hy1']) ?_
              exact ⟨_, _, _, _, rfl, Br.bag, fin ⟨[], by simp⟩ (Gq.draw (by simp) Br) Br.bag owr⟩
          · have hc' : ¬ (W.ts.length : Int) < 200 := by omega
            refine OK_of (a := (Fl.nx, [some S, some (.ptr 0), some (.bl (u == 1)), some x, some (.lst (ss.map stepD)), some (.lst (xs.map .str)), some (.int A), some (.int Bn), some (.ptr w), some (.ptr sp), some (.ptr ow), some (.int K), some (.lst Lt), some (.lst Lb), some (.lst (Ls.map .str)), some (.lst [.int 1, sd, bd]), some (.int (0 : Nat)), some (.lst (ss.map stepD)), some PT, e19])) (m := mq) (by simp -implicitDefEqProofs [owq, htl, hc, hc']) ?_
            exact ⟨_, _, _, _, rfl, hBq, fin ⟨[], by simp⟩ Gq hBq owq⟩
        · have hi1 : i = 1 := by omega
          subst hi1
          generalize spotD W = sd
          generalize bondD W = bd
          refine seq_nx (env' := [some S, some (.ptr 0), some (.bl (u == 1)), some x, some (.lst (ss.map stepD)), some (.lst (xs.map .str)), some (.int A), some (.int Bn), some (.ptr w), some (.ptr sp), some (.ptr ow), some (.int K), some (.lst Lt), some (.lst Lb), some (.lst (Ls.map .str)), some (.lst [.int 1, sd, bd]), some (.int (1 : Nat)), some (.lst (ss.map stepD)), some PT, e19]) (ms1 := mp) (by simp -implicitDefEqProofs) ?_
          refine OK_of (a := (Fl.nx, [some S, some (.ptr 0), some (.bl (u == 1)), some x, some (.lst (ss.map stepD)), some (.lst (xs.map .str)), some (.int A), some (.int Bn), some (.ptr w), some (.ptr sp), some (.ptr ow), some (.int K), some (.lst Lt), some (.lst Lb), some (.lst (Ls.map .str)), some (.lst [.int 1, sd, bd]), some (.int (1 : Nat)), some (.lst (ss.map stepD)), some PT, e19])) (m := mp) (by
            by_cases hc : (W.ts.length : Int) < 200
            · simp -implicitDefEqProofs [howp, htl, hc]
            · simp -implicitDefEqProofs [howp, htl, hc]) ?_
          exact ⟨_, _, _, _, rfl, hBp, W', Gp, ⟨more, hmore⟩, howp, fun z => nomatch z⟩
      · rintro ⟨fl, env'⟩ mz h
        cases fl with
        | nx =>
          rcases h with ⟨e16, e17, e18, e19, h1, h2, W', h3, h4, h5, _⟩ | h
          · exact ⟨rfl, e16, e17, e18, e19, h1, h2, W', h3, h4, h5⟩
          · exact h.elim
        | brk => exact h.elim
        | cont => exact h.elim
        | ret d => exact h.elim
    · rintro env mz ⟨f16, f17, f18, f19, rfl, hBz, W', Gz, ⟨more, hmore⟩, howz⟩
      have et := Gz.ties
      obtain ⟨oa, ob, oc, ho⟩ := Gz.obj
      rw [hmore, List.map_append] at et
      have htl : W.ts.length ≤ 16777216 := by omega
      have hcut : cutD (W.ts.map tieD ++ more.map tieD) none (some (W.ts.length : Int)) = W.ts.map tieD := by
        unfold DL.cutD
        rw [HT.sIx_none, HT.sIx_nat]
        simp
      have hne : neG (.lst (W.ts.map tieD)) (.ptr ow) mz = .ok (.bl false) mz := (eqG_self (k := 2) (a := .lst (W.ts.map tieD)) (b := .ptr ow) (by simp only [rdD, howz]) (ties_ok1 T.g.s.nm) (by decide)).2
      have hml : (W.ts.map tieD).length ≤ 16777216 := by simpa using htl
      generalize hTT : W.ts.map tieD = TT at et hcut howz hne hml
      have hTl : TT.length = W.ts.length := by rw [← hTT]; simp
      rw [← hTl] at hcut
      refine OK_of (a := (Fl.nx, [some S, some (.ptr 0), some (.bl (u == 1)), some x, some (.lst (ss.map stepD)), some (.lst (xs.map .str)), some (.int A), some (.int Bn), some (.ptr w), some (.ptr sp), some (.ptr ow), some (.int K), some (.lst Lt), some (.lst Lb), some (.lst ((ss.map letS).map .str)), some (.lst [.int 1, spotD W, bondD W]), f16, f17, f18, f19])) (m := mz) (by simp -implicitDefEqProofs [ho, et, howz, hml, hcut, hne]) ?_
      exact ⟨⟨_, _, _, _, _, _, _, _, _, _, _, _, _, _, _, _, _, rfl⟩, hBz⟩
  · rintro ⟨fl, env'⟩ mz h
    cases fl with
    | nx => exact ⟨rfl, trivial⟩
    | brk => exact h.elim
    | cont => exact h.elim
    | ret d => exact h.elim
end LW

set_option maxHeartbeats 2000000
namespace LW
open PySem PySem.Spec L2 DL
open PyProof.Rows hiding St
theorem all_mk {l : PySem.W.OpenLaw} {w : World} {K : PySem.W.Frag} {h : Heap} {mg : Str → Option Value} {fa : Addr} {f0 f1 f2 f3 f4 f5 f6 f7 f8 f9 f10 f11 f12 f13 f14 f15 f16 f17 f18 f19 f20 f21 f22 f23 f24 : Addr} (X : K.In h) (G : h.Ns mainGlobals mg) (hfa : mg "law" = some (.ref fa))
    {kD4 : Addr}
    {od0 an0 od1 an1 od2 an2 od3 an3 od4 an4 od5 an5 od6 an6 od7 an7 od8 an8 od9 an9 od10 an10 od11 an11 od12 an12 od13 an13 od14 an14 od15 an15 od16 an16 od17 an17 od18 an18 od19 an19 od20 an20 od21 an21 od22 an22 od23 an23 od24 an24 : Option Addr} {sl0 sl1 sl2 sl3 sl4 sl5 sl6 sl7 sl8 sl9 sl10 sl11 sl12 sl13 sl14 sl15 sl16 sl17 sl18 sl19 sl20 sl21 sl22 sl23 sl24 : Array (Option Value)} {oc0 kV0 dc0 pm0 cd0 ct0 oc1 kV1 dc1 pm1 cd1 ct1 oc2 kV2 dc2 pm2 cd2 ct2 oc3 kV3 dc3 pm3 cd3 ct3 oc4 dc4 pm4 cd4 ct4 oc5 kV5 dc5 pm5 cd5 ct5 oc6 kV6 dc6 pm6 cd6 ct6 oc7 kV7 dc7 pm7 cd7 ct7 oc8 kV8 dc8 pm8 cd8 ct8 oc9 kV9 dc9 pm9 cd9 ct9 oc10 kV10 dc10 pm10 cd10 ct10 oc11 kV11 dc11 pm11 cd11 ct11 oc12 kV12 dc12 pm12 cd12 ct12 oc13 kV13 dc13 pm13 cd13 ct13 oc14 kV14 dc14 pm14 cd14 ct14 oc15 kV15 dc15 pm15 cd15 ct15 oc16 kV16 dc16 pm16 cd16 ct16 oc17 kV17 dc17 pm17 cd17 ct17 oc18 kV18 dc18 pm18 cd18 ct18 oc19 kV19 dc19 pm19 cd19 ct19 oc20 kV20 dc20 pm20 cd20 ct20 oc21 kV21 dc21 pm21 cd21 ct21 oc22 kV22 dc22 pm22 cd22 ct22 oc23 kV23 dc23 pm23 cd23 ct23 oc24 kV24 dc24 pm24 cd24 ct24 : Value}
    {Cl_Web : Addr} (ac_Web : PySem.W.nsIn K mainGlobals "Web" = some (some (.ref Cl_Web))) (pg_Web : PySem.W.plainGet K Cl_Web Str.empty = true) (hd_Web : PySem.W.hasDictIn K Cl_Web = true) (po_Web : PySem.W.plainOver K Cl_Web = true) (sa_Web : PySem.W.findIn K (.ref Cl_Web) "__setattr__" = some (some (.builtin "object.__setattr__"))) (mk_Web : PySem.W.makesIn K Cl_Web = true) (kc_Web : PySem.W.keepIn K (.ref Cl_Web) = true)
    (nf_Web__most_places : PySem.W.findIn K (.ref Cl_Web) "_most_places" = some none)
    (nf_Web__most_ties : PySem.W.findIn K (.ref Cl_Web) "_most_ties" = some none)
    (nf_Web__places : PySem.W.findIn K (.ref Cl_Web) "_places" = some none)
    (nf_Web__ties : PySem.W.findIn K (.ref Cl_Web) "_ties" = some none)
    (nf_Web__next_place : PySem.W.findIn K (.ref Cl_Web) "_next_place" = some none)
    (nf_Web__next_tie : PySem.W.findIn K (.ref Cl_Web) "_next_tie" = some none)
    (nf_Web__marks : PySem.W.findIn K (.ref Cl_Web) "_marks" = some none)
    (a0 : PySem.W.nsIn K mainGlobals "_law_bag" = some (some (.ref f0))) (l0 : K.lookup f0 = some ⟨oc0, od0, .func (PySem.W.fnOf "_law_bag" "_law_bag" (defArgs s__law_bag) (defBody s__law_bag) (defScope s__law_bag) .none kV0 dc0 pm0 an0 cd0 ct0), sl0⟩) (c0 : PySem.W.codeIn K cd0 "_law_bag" = true) (k0 : PySem.W.keepIn K (.ref f0) = true)
    (a1 : PySem.W.nsIn K mainGlobals "_law_stirred" = some (some (.ref f1))) (l1 : K.lookup f1 = some ⟨oc1, od1, .func (PySem.W.fnOf "_law_stirred" "_law_stirred" (defArgs s__law_stirred) (defBody s__law_stirred) (defScope s__law_stirred) .none kV1 dc1 pm1 an1 cd1 ct1), sl1⟩) (c1 : PySem.W.codeIn K cd1 "_law_stirred" = true) (k1 : PySem.W.keepIn K (.ref f1) = true)
    (a2 : PySem.W.nsIn K mainGlobals "_law_draw" = some (some (.ref f2))) (l2 : K.lookup f2 = some ⟨oc2, od2, .func (PySem.W.fnOf "_law_draw" "_law_draw" (defArgs s__law_draw) (defBody s__law_draw) (defScope s__law_draw) .none kV2 dc2 pm2 an2 cd2 ct2), sl2⟩) (c2 : PySem.W.codeIn K cd2 "_law_draw" = true) (k2 : PySem.W.keepIn K (.ref f2) = true)
    (a3 : PySem.W.nsIn K mainGlobals "_law_names" = some (some (.ref f3))) (l3 : K.lookup f3 = some ⟨oc3, od3, .func (PySem.W.fnOf "_law_names" "_law_names" (defArgs s__law_names) (defBody s__law_names) (defScope s__law_names) .none kV3 dc3 pm3 an3 cd3 ct3), sl3⟩) (c3 : PySem.W.codeIn K cd3 "_law_names" = true) (k3 : PySem.W.keepIn K (.ref f3) = true)
    (a4 : PySem.W.findIn K (.ref Cl_Web) "__init__" = some (some (.ref f4))) (i4 : PySem.W.isFn K (.ref f4) = true) (l4 : K.lookup f4 = some ⟨oc4, od4, .func (PySem.W.fnOf "__init__" "Web.__init__" (defArgs s_Web___init__) (defBody s_Web___init__) (defScope s_Web___init__) .none (.ref kD4) dc4 pm4 an4 cd4 ct4), sl4⟩) (c4 : PySem.W.codeIn K cd4 "Web.__init__" = true) (k4 : PySem.W.keepIn K (.ref f4) = true)
    {kt4_0 : Tok} (kd4_0 : PySem.W.nsIn K kD4 "most_places" = some (some (.int 60 kt4_0)))
    {kt4_1 : Tok} (kd4_1 : PySem.W.nsIn K kD4 "most_ties" = some (some (.int 200 kt4_1)))
    (a5 : PySem.W.findIn K (.ref Cl_Web) "place" = some (some (.ref f5))) (i5 : PySem.W.isFn K (.ref f5) = true) (l5 : K.lookup f5 = some ⟨oc5, od5, .func (PySem.W.fnOf "place" "Web.place" (defArgs s_Web_place) (defBody s_Web_place) (defScope s_Web_place) .none kV5 dc5 pm5 an5 cd5 ct5), sl5⟩) (c5 : PySem.W.codeIn K cd5 "Web.place" = true) (k5 : PySem.W.keepIn K (.ref f5) = true)
    (a6 : PySem.W.findIn K (.ref Cl_Web) "_need_place" = some (some (.ref f6))) (i6 : PySem.W.isFn K (.ref f6) = true) (l6 : K.lookup f6 = some ⟨oc6, od6, .func (PySem.W.fnOf "_need_place" "Web._need_place" (defArgs s_Web__need_place) (defBody s_Web__need_place) (defScope s_Web__need_place) .none kV6 dc6 pm6 an6 cd6 ct6), sl6⟩) (c6 : PySem.W.codeIn K cd6 "Web._need_place" = true) (k6 : PySem.W.keepIn K (.ref f6) = true)
    (a7 : PySem.W.findIn K (.ref Cl_Web) "ties" = some (some (.ref f7))) (i7 : PySem.W.isFn K (.ref f7) = true) (l7 : K.lookup f7 = some ⟨oc7, od7, .func (PySem.W.fnOf "ties" "Web.ties" (defArgs s_Web_ties) (defBody s_Web_ties) (defScope s_Web_ties) .none kV7 dc7 pm7 an7 cd7 ct7), sl7⟩) (c7 : PySem.W.codeIn K cd7 "Web.ties" = true) (k7 : PySem.W.keepIn K (.ref f7) = true)
    (a8 : PySem.W.findIn K (.ref Cl_Web) "ties_at" = some (some (.ref f8))) (i8 : PySem.W.isFn K (.ref f8) = true) (l8 : K.lookup f8 = some ⟨oc8, od8, .func (PySem.W.fnOf "ties_at" "Web.ties_at" (defArgs s_Web_ties_at) (defBody s_Web_ties_at) (defScope s_Web_ties_at) .none kV8 dc8 pm8 an8 cd8 ct8), sl8⟩) (c8 : PySem.W.codeIn K cd8 "Web.ties_at" = true) (k8 : PySem.W.keepIn K (.ref f8) = true)
    (a9 : PySem.W.findIn K (.ref Cl_Web) "drop" = some (some (.ref f9))) (i9 : PySem.W.isFn K (.ref f9) = true) (l9 : K.lookup f9 = some ⟨oc9, od9, .func (PySem.W.fnOf "drop" "Web.drop" (defArgs s_Web_drop) (defBody s_Web_drop) (defScope s_Web_drop) .none kV9 dc9 pm9 an9 cd9 ct9), sl9⟩) (c9 : PySem.W.codeIn K cd9 "Web.drop" = true) (k9 : PySem.W.keepIn K (.ref f9) = true)
    (a10 : PySem.W.findIn K (.ref Cl_Web) "_need_tie" = some (some (.ref f10))) (i10 : PySem.W.isFn K (.ref f10) = true) (l10 : K.lookup f10 = some ⟨oc10, od10, .func (PySem.W.fnOf "_need_tie" "Web._need_tie" (defArgs s_Web__need_tie) (defBody s_Web__need_tie) (defScope s_Web__need_tie) .none kV10 dc10 pm10 an10 cd10 ct10), sl10⟩) (c10 : PySem.W.codeIn K cd10 "Web._need_tie" = true) (k10 : PySem.W.keepIn K (.ref f10) = true)
    (a11 : PySem.W.findIn K (.ref Cl_Web) "cut" = some (some (.ref f11))) (i11 : PySem.W.isFn K (.ref f11) = true) (l11 : K.lookup f11 = some ⟨oc11, od11, .func (PySem.W.fnOf "cut" "Web.cut" (defArgs s_Web_cut) (defBody s_Web_cut) (defScope s_Web_cut) .none kV11 dc11 pm11 an11 cd11 ct11), sl11⟩) (c11 : PySem.W.codeIn K cd11 "Web.cut" = true) (k11 : PySem.W.keepIn K (.ref f11) = true)
    (a12 : PySem.W.nsIn K mainGlobals "is_name" = some (some (.ref f12))) (l12 : K.lookup f12 = some ⟨oc12, od12, .func (PySem.W.fnOf "is_name" "is_name" (defArgs s_is_name) (defBody s_is_name) (defScope s_is_name) .none kV12 dc12 pm12 an12 cd12 ct12), sl12⟩) (c12 : PySem.W.codeIn K cd12 "is_name" = true) (k12 : PySem.W.keepIn K (.ref f12) = true)
    (a13 : PySem.W.findIn K (.ref Cl_Web) "tie" = some (some (.ref f13))) (i13 : PySem.W.isFn K (.ref f13) = true) (l13 : K.lookup f13 = some ⟨oc13, od13, .func (PySem.W.fnOf "tie" "Web.tie" (defArgs s_Web_tie) (defBody s_Web_tie) (defScope s_Web_tie) .none kV13 dc13 pm13 an13 cd13 ct13), sl13⟩) (c13 : PySem.W.codeIn K cd13 "Web.tie" = true) (k13 : PySem.W.keepIn K (.ref f13) = true)
    (a14 : PySem.W.nsIn K mainGlobals "_law_web" = some (some (.ref f14))) (l14 : K.lookup f14 = some ⟨oc14, od14, .func (PySem.W.fnOf "_law_web" "_law_web" (defArgs s__law_web) (defBody s__law_web) (defScope s__law_web) .none kV14 dc14 pm14 an14 cd14 ct14), sl14⟩) (c14 : PySem.W.codeIn K cd14 "_law_web" = true) (k14 : PySem.W.keepIn K (.ref f14) = true)
    (a15 : PySem.W.findIn K (.ref Cl_Web) "places" = some (some (.ref f15))) (i15 : PySem.W.isFn K (.ref f15) = true) (l15 : K.lookup f15 = some ⟨oc15, od15, .func (PySem.W.fnOf "places" "Web.places" (defArgs s_Web_places) (defBody s_Web_places) (defScope s_Web_places) .none kV15 dc15 pm15 an15 cd15 ct15), sl15⟩) (c15 : PySem.W.codeIn K cd15 "Web.places" = true) (k15 : PySem.W.keepIn K (.ref f15) = true)
    (a16 : PySem.W.findIn K (.ref Cl_Web) "stand" = some (some (.ref f16))) (i16 : PySem.W.isFn K (.ref f16) = true) (l16 : K.lookup f16 = some ⟨oc16, od16, .func (PySem.W.fnOf "stand" "Web.stand" (defArgs s_Web_stand) (defBody s_Web_stand) (defScope s_Web_stand) .none kV16 dc16 pm16 an16 cd16 ct16), sl16⟩) (c16 : PySem.W.codeIn K cd16 "Web.stand" = true) (k16 : PySem.W.keepIn K (.ref f16) = true)
    (a17 : PySem.W.findIn K (.ref Cl_Web) "mark" = some (some (.ref f17))) (i17 : PySem.W.isFn K (.ref f17) = true) (l17 : K.lookup f17 = some ⟨oc17, od17, .func (PySem.W.fnOf "mark" "Web.mark" (defArgs s_Web_mark) (defBody s_Web_mark) (defScope s_Web_mark) .none kV17 dc17 pm17 an17 cd17 ct17), sl17⟩) (c17 : PySem.W.codeIn K cd17 "Web.mark" = true) (k17 : PySem.W.keepIn K (.ref f17) = true)
    (a18 : PySem.W.findIn K (.ref Cl_Web) "put_back" = some (some (.ref f18))) (i18 : PySem.W.isFn K (.ref f18) = true) (l18 : K.lookup f18 = some ⟨oc18, od18, .func (PySem.W.fnOf "put_back" "Web.put_back" (defArgs s_Web_put_back) (defBody s_Web_put_back) (defScope s_Web_put_back) .none kV18 dc18 pm18 an18 cd18 ct18), sl18⟩) (c18 : PySem.W.codeIn K cd18 "Web.put_back" = true) (k18 : PySem.W.keepIn K (.ref f18) = true)
    (a19 : PySem.W.findIn K (.ref Cl_Web) "undo" = some (some (.ref f19))) (i19 : PySem.W.isFn K (.ref f19) = true) (l19 : K.lookup f19 = some ⟨oc19, od19, .func (PySem.W.fnOf "undo" "Web.undo" (defArgs s_Web_undo) (defBody s_Web_undo) (defScope s_Web_undo) .none kV19 dc19 pm19 an19 cd19 ct19), sl19⟩) (c19 : PySem.W.codeIn K cd19 "Web.undo" = true) (k19 : PySem.W.keepIn K (.ref f19) = true)
    (a20 : PySem.W.nsIn K mainGlobals "_law_coming" = some (some (.ref f20))) (l20 : K.lookup f20 = some ⟨oc20, od20, .func (PySem.W.fnOf "_law_coming" "_law_coming" (defArgs s__law_coming) (defBody s__law_coming) (defScope s__law_coming) .none kV20 dc20 pm20 an20 cd20 ct20), sl20⟩) (c20 : PySem.W.codeIn K cd20 "_law_coming" = true) (k20 : PySem.W.keepIn K (.ref f20) = true)
    (a21 : PySem.W.findIn K (.ref Cl_Web) "ends_of" = some (some (.ref f21))) (i21 : PySem.W.isFn K (.ref f21) = true) (l21 : K.lookup f21 = some ⟨oc21, od21, .func (PySem.W.fnOf "ends_of" "Web.ends_of" (defArgs s_Web_ends_of) (defBody s_Web_ends_of) (defScope s_Web_ends_of) .none kV21 dc21 pm21 an21 cd21 ct21), sl21⟩) (c21 : PySem.W.codeIn K cd21 "Web.ends_of" = true) (k21 : PySem.W.keepIn K (.ref f21) = true)
    (a22 : PySem.W.nsIn K mainGlobals "spelled" = some (some (.ref f22))) (l22 : K.lookup f22 = some ⟨oc22, od22, .func (PySem.W.fnOf "spelled" "spelled" (defArgs s_spelled) (defBody s_spelled) (defScope s_spelled) .none kV22 dc22 pm22 an22 cd22 ct22), sl22⟩) (c22 : PySem.W.codeIn K cd22 "spelled" = true) (k22 : PySem.W.keepIn K (.ref f22) = true)
    (a23 : PySem.W.nsIn K mainGlobals "_law_alike" = some (some (.ref f23))) (l23 : K.lookup f23 = some ⟨oc23, od23, .func (PySem.W.fnOf "_law_alike" "_law_alike" (defArgs s__law_alike) (defBody s__law_alike) (defScope s__law_alike) .none kV23 dc23 pm23 an23 cd23 ct23), sl23⟩) (c23 : PySem.W.codeIn K cd23 "_law_alike" = true) (k23 : PySem.W.keepIn K (.ref f23) = true)
    (a24 : PySem.W.nsIn K mainGlobals "law" = some (some (.ref f24))) (l24 : K.lookup f24 = some ⟨oc24, od24, .func (PySem.W.fnOf "law" "law" (defArgs s_law) (defBody s_law) (defScope s_law) .none kV24 dc24 pm24 an24 cd24 ct24), sl24⟩) (c24 : PySem.W.codeIn K cd24 "law" = true) (k24 : PySem.W.keepIn K (.ref f24) = true)
    (zz_abs : PySem.W.nsIn K mainGlobals "abs" = some none)
    (zz_all : PySem.W.nsIn K mainGlobals "all" = some none)
    (zz_bool : PySem.W.nsIn K mainGlobals "bool" = some none)
    (zz_int : PySem.W.nsIn K mainGlobals "int" = some none)
    (zz_isinstance : PySem.W.nsIn K mainGlobals "isinstance" = some none)
    (zz_len : PySem.W.nsIn K mainGlobals "len" = some none)
    (zz_list : PySem.W.nsIn K mainGlobals "list" = some none)
    (zz_max : PySem.W.nsIn K mainGlobals "max" = some none)
    (zz_min : PySem.W.nsIn K mainGlobals "min" = some none)
    (zz_range : PySem.W.nsIn K mainGlobals "range" = some none)
    (zz_sorted : PySem.W.nsIn K mainGlobals "sorted" = some none)
    (zz_str : PySem.W.nsIn K mainGlobals "str" = some none)
    (zz_tuple : PySem.W.nsIn K mainGlobals "tuple" = some none)
    {t_LONGEST_NAME : Tok} (g_LONGEST_NAME : PySem.W.nsIn K mainGlobals "LONGEST_NAME" = some (some (.int 8 t_LONGEST_NAME)))
    {t_SMALL_LETTERS : Tok} (g_SMALL_LETTERS : PySem.W.nsIn K mainGlobals "SMALL_LETTERS" = some (some (.str "abcdefghijklmnopqrstuvwxyz" t_SMALL_LETTERS)))
    (hlaw : ∀ ns : List Int, ns.length ≤ 63 → ∃ ms, sem_law [.ro (ns.map D.int)] [] = .ok (.bl true) ms) :
    ∃ fd : FuncData, (∀ (s : Shared) (v : Value), BindsTo s fd ⟨[v], []⟩ [("script", v)]) ∧ ∀ base : Heap, K.In base → base.Ns mainGlobals mg → FnOk l.prog w K mg base CX0 6 fa fd ["script"] (spL K) := by
  have e := hfa.symm.trans (PySem.W.mg_of X G a24)
  cases e
  have qc_Web : ∀ f, f ∈ (["_most_places", "_most_ties", "_places", "_ties", "_next_place", "_next_tie", "_marks"] : List Str) → NoAttr K Cl_Web f := by
    intro f hf
    simp only [List.mem_cons, List.not_mem_nil, or_false] at hf
    rcases hf with rfl | rfl | rfl | rfl | rfl | rfl | rfl
    · exact nf_Web__most_places
    · exact nf_Web__most_ties
    · exact nf_Web__places
    · exact nf_Web__ties
    · exact nf_Web__next_place
    · exact nf_Web__next_tie
    · exact nf_Web__marks
  let Q_Web : KC K mg "Web" ["_most_places", "_most_ties", "_places", "_ties", "_next_place", "_next_tie", "_marks"] := ⟨Cl_Web, ac_Web, PySem.W.mg_of X G ac_Web, ⟨pg_Web, hd_Web, po_Web, sa_Web⟩, qc_Web⟩
  have T : Txt K mg := ⟨⟨Q_Web⟩, PySem.W.mg_none_of X G zz_abs, PySem.W.mg_none_of X G zz_all, PySem.W.mg_none_of X G zz_bool, PySem.W.mg_none_of X G zz_int, PySem.W.mg_none_of X G zz_isinstance, PySem.W.mg_none_of X G zz_len, PySem.W.mg_none_of X G zz_list, PySem.W.mg_none_of X G zz_max, PySem.W.mg_none_of X G zz_min, PySem.W.mg_none_of X G zz_range, PySem.W.mg_none_of X G zz_sorted, PySem.W.mg_none_of X G zz_str, PySem.W.mg_none_of X G zz_tuple, fun {Y} {_} {_} hg hm _ => d_glob (v := V.int 8) hg ((congrFun hm _).trans (PySem.W.mg_of X G g_LONGEST_NAME)) ⟨_, rfl⟩ (fun _ _ => rfl), fun {Y} {_} {_} hg hm _ => d_glob (v := V.str "abcdefghijklmnopqrstuvwxyz") hg ((congrFun hm _).trans (PySem.W.mg_of X G g_SMALL_LETTERS)) ⟨_, rfl⟩ (fun _ _ => rfl)⟩
  have F0 := fun_mk (st := s__law_bag) l0 c0 k0
  have b0 := F0.binds (ps := ["script"]) fun _ _ _ _ _ _ us hl => match us, hl with | [_], _ => rfl
  have F1 := fun_mk (st := s__law_stirred) l1 c1 k1
  have b1 := F1.binds (ps := ["bag", "many"]) fun _ _ _ _ _ _ us hl => match us, hl with | [_, _], _ => rfl
  have F2 := fun_mk (st := s__law_draw) l2 c2 k2
  have b2 := F2.binds (ps := ["bag", "many"]) fun _ _ _ _ _ _ us hl => match us, hl with | [_, _], _ => rfl
  have F3 := fun_mk (st := s__law_names) l3 c3 k3
  have b3 := F3.binds (ps := ["bag"]) fun _ _ _ _ _ _ us hl => match us, hl with | [_], _ => rfl
  have F4 := fun_mk (st := s_Web___init__) l4 c4 k4
  have FD4 : FunD K "__init__" "Web.__init__" (defArgs s_Web___init__) (defBody s_Web___init__) (defScope s_Web___init__) [] [("most_places", V.int 60), ("most_ties", V.int 200)] f4 _ := ⟨⟨_, _, _, _, _, _, _, _, _, _, rfl, l4, c4, .inl ⟨rfl, rfl⟩, .inr ⟨kD4, rfl, fun q hq => by
    simp only [List.mem_cons, List.not_mem_nil, or_false] at hq
    rcases hq with rfl | rfl
    · exact ⟨_, kd4_0, _, rfl⟩
    · exact ⟨_, kd4_1, _, rfl⟩⟩⟩, k4⟩
  obtain ⟨ds4, dv4, b4⟩ := FD4.binds0 (ps := ["self", "most_places", "most_ties"]) 1 (by simp) rfl fun D doc pm an cdv ct us ks h1 h2 => match us, ks, h1, h2 with | [_], [_, _], _, _ => ⟨_, _, _, _, _, _, rfl, rfl, _, _, _, _, _, _, rfl, rfl, rfl⟩
  have F5 := fun_mk (st := s_Web_place) l5 c5 k5
  have b5 := F5.binds (ps := ["self"]) fun _ _ _ _ _ _ us hl => match us, hl with | [_], _ => rfl
  have F6 := fun_mk (st := s_Web__need_place) l6 c6 k6
  have b6 := F6.binds (ps := ["self", "place"]) fun _ _ _ _ _ _ us hl => match us, hl with | [_, _], _ => rfl
  have F7 := fun_mk (st := s_Web_ties) l7 c7 k7
  have b7 := F7.binds (ps := ["self"]) fun _ _ _ _ _ _ us hl => match us, hl with | [_], _ => rfl
  have F8 := fun_mk (st := s_Web_ties_at) l8 c8 k8
  have b8 := F8.binds (ps := ["self", "place"]) fun _ _ _ _ _ _ us hl => match us, hl with | [_, _], _ => rfl
  have F9 := fun_mk (st := s_Web_drop) l9 c9 k9
  have b9 := F9.binds (ps := ["self", "place"]) fun _ _ _ _ _ _ us hl => match us, hl with | [_, _], _ => rfl
  have F10 := fun_mk (st := s_Web__need_tie) l10 c10 k10
  have b10 := F10.binds (ps := ["self", "tie"]) fun _ _ _ _ _ _ us hl => match us, hl with | [_, _], _ => rfl
  have F11 := fun_mk (st := s_Web_cut) l11 c11 k11
  have b11 := F11.binds (ps := ["self", "tie"]) fun _ _ _ _ _ _ us hl => match us, hl with | [_, _], _ => rfl
  have F12 := fun_mk (st := s_is_name) l12 c12 k12
  have b12 := F12.binds (ps := ["text"]) fun _ _ _ _ _ _ us hl => match us, hl with | [_], _ => rfl
  have F13 := fun_mk (st := s_Web_tie) l13 c13 k13
  have b13 := F13.binds (ps := ["self", "start", "name", "goal"]) fun _ _ _ _ _ _ us hl => match us, hl with | [_, _, _, _], _ => rfl
  have F14 := fun_mk (st := s__law_web) l14 c14 k14
  have b14 := F14.binds (ps := ["bag", "names", "many", "ties"]) fun _ _ _ _ _ _ us hl => match us, hl with | [_, _, _, _], _ => rfl
  have F15 := fun_mk (st := s_Web_places) l15 c15 k15
  have b15 := F15.binds (ps := ["self"]) fun _ _ _ _ _ _ us hl => match us, hl with | [_], _ => rfl
  have F16 := fun_mk (st := s_Web_stand) l16 c16 k16
  have b16 := F16.binds (ps := ["self"]) fun _ _ _ _ _ _ us hl => match us, hl with | [_], _ => rfl
  have F17 := fun_mk (st := s_Web_mark) l17 c17 k17
  have b17 := F17.binds (ps := ["self"]) fun _ _ _ _ _ _ us hl => match us, hl with | [_], _ => rfl
  have F18 := fun_mk (st := s_Web_put_back) l18 c18 k18
  have b18 := F18.binds (ps := ["self", "stand"]) fun _ _ _ _ _ _ us hl => match us, hl with | [_, _], _ => rfl
  have F19 := fun_mk (st := s_Web_undo) l19 c19 k19
  have b19 := F19.binds (ps := ["self", "mark"]) fun _ _ _ _ _ _ us hl => match us, hl with | [_, _], _ => rfl
  have F20 := fun_mk (st := s__law_coming) l20 c20 k20
  have b20 := F20.binds (ps := ["net", "there", "own"]) fun _ _ _ _ _ _ us hl => match us, hl with | [_, _, _], _ => rfl
  have F21 := fun_mk (st := s_Web_ends_of) l21 c21 k21
  have b21 := F21.binds (ps := ["self", "tie"]) fun _ _ _ _ _ _ us hl => match us, hl with | [_, _], _ => rfl
  have F22 := fun_mk (st := s_spelled) l22 c22 k22
  have b22 := F22.binds (ps := ["web", "steps"]) fun _ _ _ _ _ _ us hl => match us, hl with | [_, _], _ => rfl
  have F23 := fun_mk (st := s__law_alike) l23 c23 k23
  have b23 := F23.binds (ps := ["got", "due"]) fun _ _ _ _ _ _ us hl => match us, hl with | [_, _], _ => rfl
  have F24 := fun_mk (st := s_law) l24 c24 k24
  refine ⟨PySem.W.fnOf "law" "law" (defArgs s_law) (defBody s_law) (defScope s_law) .none kV24 dc24 pm24 an24 cd24 ct24, fun s v => .of_eq rfl, fun base _ _ => ?_⟩
  let C__law_bag : Cal l.prog w K mg base 1 "_law_bag" ["script"] sem__law_bag := ⟨f0, _, ok__law_bag F0 T  , PySem.W.mg_of X G a0, F0.kp, b0⟩
  let C__law_stirred : Cal l.prog w K mg base 1 "_law_stirred" ["bag", "many"] sem__law_stirred := ⟨f1, _, ok__law_stirred F1 T  , PySem.W.mg_of X G a1, F1.kp, b1⟩
  let C__law_draw : Cal l.prog w K mg base 2 "_law_draw" ["bag", "many"] sem__law_draw := ⟨f2, _, ok__law_draw F2 T C__law_stirred , PySem.W.mg_of X G a2, F2.kp, b2⟩
  let C__law_names : Cal l.prog w K mg base 3 "_law_names" ["bag"] sem__law_names := ⟨f3, _, ok__law_names F3 T C__law_draw , PySem.W.mg_of X G a3, F3.kp, b3⟩
  let C_Web___init__ : CalD l.prog w K mg base 1 "Web" ["self", "most_places", "most_ties"] sem_Web___init__ dv_Web___init__ := ⟨["_most_places", "_most_ties", "_places", "_ties", "_next_place", "_next_tie", "_marks"], Q_Web, f4, _, ok_Web___init__ F4 T  , ⟨mk_Web, a4, i4, kc_Web⟩, ds4, _, dv4, fun _ _ => ⟨_, _, rfl, rfl, ⟨_, _, rfl, rfl, rfl⟩⟩, b4⟩
  let CK_Web___init__ : CalK l.prog w K mg base 1 "Web" ["self", "most_places", "most_ties"] ["most_places", "most_ties"] [0, 1, 2] sem_Web___init__ := ⟨["_most_places", "_most_ties", "_places", "_ties", "_next_place", "_next_tie", "_marks"], Q_Web, f4, _, ok_Web___init__ F4 T  , ⟨mk_Web, a4, i4, kc_Web⟩, KwB.mk' F4 1 ["most_places", "most_ties"] [0, 1, 2] fun _ _ _ _ _ _ us ws h1 h2 => match us, ws, h1, h2 with | [_], [_, _], _, _ => rfl⟩
  let C_Web_place : CalM l.prog w K mg base 1 "Web" "place" ["self"] sem_Web_place := ⟨_, Q_Web, f5, _, ok_Web_place F5 T  , ⟨a5, i5, k5⟩, b5⟩
  let C_Web__need_place : CalM l.prog w K mg base 1 "Web" "_need_place" ["self", "place"] sem_Web__need_place := ⟨_, Q_Web, f6, _, ok_Web__need_place F6 T  , ⟨a6, i6, k6⟩, b6⟩
  let C_Web_ties : CalM l.prog w K mg base 1 "Web" "ties" ["self"] sem_Web_ties := ⟨_, Q_Web, f7, _, ok_Web_ties F7 T  , ⟨a7, i7, k7⟩, b7⟩
  let C_Web_ties_at : CalM l.prog w K mg base 2 "Web" "ties_at" ["self", "place"] sem_Web_ties_at := ⟨_, Q_Web, f8, _, ok_Web_ties_at F8 T C_Web__need_place C_Web_ties , ⟨a8, i8, k8⟩, b8⟩
  let C_Web_drop : CalM l.prog w K mg base 3 "Web" "drop" ["self", "place"] sem_Web_drop := ⟨_, Q_Web, f9, _, ok_Web_drop F9 T C_Web_ties_at , ⟨a9, i9, k9⟩, b9⟩
  let C_Web__need_tie : CalM l.prog w K mg base 1 "Web" "_need_tie" ["self", "tie"] sem_Web__need_tie := ⟨_, Q_Web, f10, _, ok_Web__need_tie F10 T  , ⟨a10, i10, k10⟩, b10⟩
  let C_Web_cut : CalM l.prog w K mg base 2 "Web" "cut" ["self", "tie"] sem_Web_cut := ⟨_, Q_Web, f11, _, ok_Web_cut F11 T C_Web__need_tie , ⟨a11, i11, k11⟩, b11⟩
  let C_is_name : Cal l.prog w K mg base 1 "is_name" ["text"] sem_is_name := ⟨f12, _, ok_is_name F12 T  , PySem.W.mg_of X G a12, F12.kp, b12⟩
  let C_Web_tie : CalM l.prog w K mg base 2 "Web" "tie" ["self", "start", "name", "goal"] sem_Web_tie := ⟨_, Q_Web, f13, _, ok_Web_tie F13 T C_Web__need_place C_is_name , ⟨a13, i13, k13⟩, b13⟩
  let C__law_web : Cal l.prog w K mg base 4 "_law_web" ["bag", "names", "many", "ties"] sem__law_web := ⟨f14, _, ok__law_web F14 T C__law_draw C_Web___init__ CK_Web___init__ C_Web_place C_Web_drop C_Web_cut C_Web_tie , PySem.W.mg_of X G a14, F14.kp, b14⟩
  let C_Web_places : CalM l.prog w K mg base 1 "Web" "places" ["self"] sem_Web_places := ⟨_, Q_Web, f15, _, ok_Web_places F15 T  , ⟨a15, i15, k15⟩, b15⟩
  let C_Web_stand : CalM l.prog w K mg base 2 "Web" "stand" ["self"] sem_Web_stand := ⟨_, Q_Web, f16, _, ok_Web_stand F16 T C_Web_ties C_Web_places , ⟨a16, i16, k16⟩, b16⟩
  let C_Web_mark : CalM l.prog w K mg base 3 "Web" "mark" ["self"] sem_Web_mark := ⟨_, Q_Web, f17, _, ok_Web_mark F17 T C_Web_stand , ⟨a17, i17, k17⟩, b17⟩
  let C_Web_put_back : CalM l.prog w K mg base 1 "Web" "put_back" ["self", "stand"] sem_Web_put_back := ⟨_, Q_Web, f18, _, ok_Web_put_back F18 T  , ⟨a18, i18, k18⟩, b18⟩
  let C_Web_undo : CalM l.prog w K mg base 2 "Web" "undo" ["self", "mark"] sem_Web_undo := ⟨_, Q_Web, f19, _, ok_Web_undo F19 T C_Web_put_back , ⟨a19, i19, k19⟩, b19⟩
  let C__law_coming : Cal l.prog w K mg base 4 "_law_coming" ["net", "there", "own"] sem__law_coming := ⟨f20, _, ok__law_coming F20 T C_Web_place C_Web_tie C_Web_mark C_Web_undo , PySem.W.mg_of X G a20, F20.kp, b20⟩
  let C_Web_ends_of : CalM l.prog w K mg base 2 "Web" "ends_of" ["self", "tie"] sem_Web_ends_of := ⟨_, Q_Web, f21, _, ok_Web_ends_of F21 T C_Web__need_tie , ⟨a21, i21, k21⟩, b21⟩
  let C_spelled : Cal l.prog w K mg base 3 "spelled" ["web", "steps"] sem_spelled := ⟨f22, _, ok_spelled F22 T C_Web_ends_of , PySem.W.mg_of X G a22, F22.kp, b22⟩
  let C__law_alike : Cal l.prog w K mg base 5 "_law_alike" ["got", "due"] (sem__law_alike 4) := cal__law_alike F23 T   (PySem.W.mg_of X G a23) b23 4
  have W_spelled_steps_web_0_law : KwB K C_spelled.fd ["web", "steps"] 0 ["steps", "web"] [1, 0] := KwB.mk' F22 0 ["steps", "web"] [1, 0] fun _ _ _ _ _ _ us ws h1 h2 => match us, ws, h1, h2 with | [], [_, _], _, _ => rfl
  exact law_ok (ok_law F24 T C__law_bag C__law_draw C__law_names C_Web_ties C_Web_tie C__law_web C__law_coming C_spelled C__law_alike W_spelled_steps_web_0_law) hlaw
end LW

open PySem PySem.W PyProof.Rows in
set_option maxRecDepth 100000 in
set_option maxHeartbeats 0 in
theorem PySem.Challenge.cw_wordways_k31_letters_of_steps_holds : PySem.Challenge.rw_wordways_k31_letters_of_steps.Holds := by
  w_on; o_law; k_head; (case hw => w_witness2)
  k_fill
  refine DL.law_walk (l := PySem.Challenge.rw_wordways_k31_letters_of_steps) 6 (x := "script") ⟨rfl, by decide, by decide⟩ rfl rfl (fun w h Y => PySem.W.kIn_of Y) ?F
  case F =>
    intro w mg fa h KX G hmg
    refine' LW.all_mk KX G hmg ?ac_Web ?pg_Web ?hd_Web ?po_Web ?sa_Web ?mk_Web ?kc_Web ?nf_Web__most_places ?nf_Web__most_ties ?nf_Web__places ?nf_Web__ties ?nf_Web__next_place ?nf_Web__next_tie ?nf_Web__marks ?a0 ?l0 ?c0 ?k0 ?a1 ?l1 ?c1 ?k1 ?a2 ?l2 ?c2 ?k2 ?a3 ?l3 ?c3 ?k3 ?a4 ?i4 ?l4 ?c4 ?k4 ?kd4_0 ?kd4_1 ?a5 ?i5 ?l5 ?c5 ?k5 ?a6 ?i6 ?l6 ?c6 ?k6 ?a7 ?i7 ?l7 ?c7 ?k7 ?a8 ?i8 ?l8 ?c8 ?k8 ?a9 ?i9 ?l9 ?c9 ?k9 ?a10 ?i10 ?l10 ?c10 ?k10 ?a11 ?i11 ?l11 ?c11 ?k11 ?a12 ?l12 ?c12 ?k12 ?a13 ?i13 ?l13 ?c13 ?k13 ?a14 ?l14 ?c14 ?k14 ?a15 ?i15 ?l15 ?c15 ?k15 ?a16 ?i16 ?l16 ?c16 ?k16 ?a17 ?i17 ?l17 ?c17 ?k17 ?a18 ?i18 ?l18 ?c18 ?k18 ?a19 ?i19 ?l19 ?c19 ?k19 ?a20 ?l20 ?c20 ?k20 ?a21 ?i21 ?l21 ?c21 ?k21 ?a22 ?l22 ?c22 ?k22 ?a23 ?l23 ?c23 ?k23 ?a24 ?l24 ?c24 ?k24 ?zz_abs ?zz_all ?zz_bool ?zz_int ?zz_isinstance ?zz_len ?zz_list ?zz_max ?zz_min ?zz_range ?zz_sorted ?zz_str ?zz_tuple ?g_LONGEST_NAME ?g_SMALL_LETTERS ?hlaw
    (case ac_Web => k_is)
    (case pg_Web => k_is)
    (case hd_Web => k_is)
    (case po_Web => k_is)
    (case sa_Web => k_is)
    (case mk_Web => k_is)
    (case kc_Web => k_is)
    (case nf_Web__most_places => k_is)
    (case nf_Web__most_ties => k_is)
    (case nf_Web__places => k_is)
    (case nf_Web__ties => k_is)
    (case nf_Web__next_place => k_is)
    (case nf_Web__next_tie => k_is)
    (case nf_Web__marks => k_is)
    (case a0 => k_is)
    (case l0 => k_is)
    (case c0 => k_is)
    (case k0 => k_is)
    (case a1 => k_is)
    (case l1 => k_is)
    (case c1 => k_is)
    (case k1 => k_is)
    (case a2 => k_is)
    (case l2 => k_is)
    (case c2 => k_is)
    (case k2 => k_is)
    (case a3 => k_is)
    (case l3 => k_is)
    (case c3 => k_is)
    (case k3 => k_is)
    (case a4 => k_is)
    (case i4 => k_is)
    (case l4 => k_is)
    (case c4 => k_is)
    (case k4 => k_is)
    (case kd4_0 => k_is)
    (case kd4_1 => k_is)
    (case a5 => k_is)
    (case i5 => k_is)
    (case l5 => k_is)
    (case c5 => k_is)
    (case k5 => k_is)
    (case a6 => k_is)
    (case i6 => k_is)
    (case l6 => k_is)
    (case c6 => k_is)
    (case k6 => k_is)
    (case a7 => k_is)
    (case i7 => k_is)
    (case l7 => k_is)
    (case c7 => k_is)
    (case k7 => k_is)
    (case a8 => k_is)
    (case i8 => k_is)
    (case l8 => k_is)
    (case c8 => k_is)
    (case k8 => k_is)
    (case a9 => k_is)
    (case i9 => k_is)
    (case l9 => k_is)
    (case c9 => k_is)
    (case k9 => k_is)
    (case a10 => k_is)
    (case i10 => k_is)
    (case l10 => k_is)
    (case c10 => k_is)
    (case k10 => k_is)
    (case a11 => k_is)
    (case i11 => k_is)
    (case l11 => k_is)
    (case c11 => k_is)
    (case k11 => k_is)
    (case a12 => k_is)
    (case l12 => k_is)
    (case c12 => k_is)
    (case k12 => k_is)
    (case a13 => k_is)
    (case i13 => k_is)
    (case l13 => k_is)
    (case c13 => k_is)
    (case k13 => k_is)
    (case a14 => k_is)
    (case l14 => k_is)
    (case c14 => k_is)
    (case k14 => k_is)
    (case a15 => k_is)
    (case i15 => k_is)
    (case l15 => k_is)
    (case c15 => k_is)
    (case k15 => k_is)
    (case a16 => k_is)
    (case i16 => k_is)
    (case l16 => k_is)
    (case c16 => k_is)
    (case k16 => k_is)
    (case a17 => k_is)
    (case i17 => k_is)
    (case l17 => k_is)
    (case c17 => k_is)
    (case k17 => k_is)
    (case a18 => k_is)
    (case i18 => k_is)
    (case l18 => k_is)
    (case c18 => k_is)
    (case k18 => k_is)
    (case a19 => k_is)
    (case i19 => k_is)
    (case l19 => k_is)
    (case c19 => k_is)
    (case k19 => k_is)
    (case a20 => k_is)
    (case l20 => k_is)
    (case c20 => k_is)
    (case k20 => k_is)
    (case a21 => k_is)
    (case i21 => k_is)
    (case l21 => k_is)
    (case c21 => k_is)
    (case k21 => k_is)
    (case a22 => k_is)
    (case l22 => k_is)
    (case c22 => k_is)
    (case k22 => k_is)
    (case a23 => k_is)
    (case l23 => k_is)
    (case c23 => k_is)
    (case k23 => k_is)
    (case a24 => k_is)
    (case l24 => k_is)
    (case c24 => k_is)
    (case k24 => k_is)
    (case zz_abs => k_is)
    (case zz_all => k_is)
    (case zz_bool => k_is)
    (case zz_int => k_is)
    (case zz_isinstance => k_is)
    (case zz_len => k_is)
    (case zz_list => k_is)
    (case zz_max => k_is)
    (case zz_min => k_is)
    (case zz_range => k_is)
    (case zz_sorted => k_is)
    (case zz_str => k_is)
    (case zz_tuple => k_is)
    (case g_LONGEST_NAME => k_is)
    (case g_SMALL_LETTERS => k_is)
    (case hlaw => exact LW.hlaw)
