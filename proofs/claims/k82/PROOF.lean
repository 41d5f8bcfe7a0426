import PyProof.Rows.All
import HandS.ExcField
import HandS.ExcInit
import HandS.ExcIs
import HandS.Remove
import HandS.Replace
import HandS.TryMany
import PyProof.Conv_bool
import PyProof.InstSpecial
import PyProof.ListTruth
import Wide.All
import OpenK.AllK
import Wide.FinOn
import HandS.ForMost
import HandS.Exc
import HandS.TryOnly
import HandS.ExcOwn
import HandS.WordsExc
import HandS.Flow
import HandS.TupAny
import HandS.IsInst
import HandS.Wide
import HandS.WideBits
import HandS.Style
import HandS.Defaults
import HandS.RevRange
import HandS.FStr
import HandS.More
import HandS.SetFor
import HandS.Strs
import HandS.SortInts
import HandS.Star
import HandS.Conv
import HandS.MakeKwOnly
import HandS.Small
import HandS.Text
import HandS.SortKw
import KE.DataMinMax
import HandS.RaiseMore
import KE.IntTextLaws
import HandS.DictComp
import PyProof.AutoSeq1
import PySem.Challenge.RW_wordways_k82_webs_read
set_option Elab.async false
set_option linter.all false
set_option maxRecDepth 100000
set_option autoImplicit false
set_option maxHeartbeats 1000000
namespace DL
open PySem PySem.Spec L2
open PyProof.Rows hiding St

/-! ### data, cells, results -/
inductive D where
  | non | bl (b : Bool) | int (i : Int) | str (x : Str)
  | tup (xs : List D) | lst (xs : List D) | ro (xs : List D) | ptr (n : Nat)
  deriving Inhabited
inductive Cell where
  | lst (ds : List D) | obj (nm : Str) (fs : List (Str × D)) | dK (kvs : List (Key × D)) | dT (kvs : List (List Key × D))
  /-- an exception that is kept: its class, its field -/
  | exn (c : Str) (a : Option (Str × Int))
abbrev MS := List Cell
abbrev Env := List (Option D)
/-- an exception: its class's name, what its field holds, the slots where it was raised -/
structure Exc where
  c : Str
  a : Option (Str × Int)
  env : Env
inductive Res (α : Type) where
  | bad | ok (a : α) (ms : MS) | exc (x : Exc) (ms : MS)
def Res.bind {α β : Type} (r : Res α) (k : α → MS → Res β) : Res β := match r with
  | .bad => .bad
  | .ok a ms => k a ms
  | .exc x ms => .exc x ms
@[simp] theorem bind_ok {α β : Type} (a : α) (ms : MS) (k : α → MS → Res β) : (Res.ok a ms).bind k = k a ms := rfl
@[simp] theorem bind_bad {α β : Type} (k : α → MS → Res β) : (Res.bad : Res α).bind k = .bad := rfl
@[simp] theorem bind_exc {α β : Type} (x : Exc) (ms : MS) (k : α → MS → Res β) : (Res.exc x ms : Res α).bind k = .exc x ms := rfl
theorem bind_assoc {α β γ : Type} (r : Res α) (k : α → MS → Res β) (l : β → MS → Res γ) : (r.bind k).bind l = r.bind fun a ms => (k a ms).bind l := by
  cases r <;> rfl

/-- the addresses of the cells; those that no data bears (a list that is being made) -/
structure Ct where
  a : List Addr
  f : List Addr
def Ct.no (ι : Ct) (p : Addr) : Prop := p ∉ ι.a ∧ p ∉ ι.f
def Ct.push (ι : Ct) (p : Addr) : Ct := ⟨ι.a ++ [p], ι.f⟩
/-! ### what a value bears -/
mutual
def Rp (K : PySem.W.Frag) (ι : Ct) (H : Hp) : D → V → Prop
  | .non, v => v = .non
  | .bl b, v => v = .bl b
  | .int i, v => v = .int i
  | .str x, v => v = .str x
  | .tup ds, v => ∃ p xs, v = .ref p ∧ SqT K H p xs ∧ Rps K ι H ds xs
  | .lst ds, v => ∃ p xs, v = .ref p ∧ H p = some (.lst xs) ∧ ι.no p ∧ Rps K ι H ds xs
  | .ro ds, v => ∃ p xs, v = .ref p ∧ ((∃ o, H p = some (.frz o (.lst xs))) ∨ (∃ (o : Obj) (its : Array Value) (n : Nat), K.lookup p = some o ∧ o.cls = .type "list" ∧ o.dict = none ∧ o.data = .seq its n ∧ its.size ≤ sizeLine ∧ Vals xs its.toList)) ∧ Rps K ι H ds xs
  | .ptr n, v => ∃ p, v = .ref p ∧ ι.a[n]? = some p
def Rps (K : PySem.W.Frag) (ι : Ct) (H : Hp) : List D → List V → Prop
  | [], vs => vs = []
  | d :: ds, vs => ∃ v r, vs = v :: r ∧ Rp K ι H d v ∧ Rps K ι H ds r
end
structure Le (ι : Ct) (H : Hp) (ι' : Ct) (H' : Hp) : Prop where
  pre : ∃ e, ι'.a = ι.a ++ e
  same : ι'.f = ι.f
  tup : ∀ p xs, H p = some (.tup xs) → H' p = some (.tup xs)
  frz : ∀ p o u, H p = some (.frz o u) → H' p = some (.frz o u)
  lst : ∀ p xs, H p = some (.lst xs) → ι.no p → H' p = some (.lst xs) ∧ ι'.no p
  keep : ∀ p, p ∈ ι.f → H' p = H p
section
variable {K : PySem.W.Frag} {ι ι' ι2 : Ct} {H H' H2 : Hp}
theorem Le.refl : Le ι H ι H := ⟨⟨[], by simp⟩, rfl, fun _ _ h => h, fun _ _ _ h => h, fun _ _ h n => ⟨h, n⟩, fun _ _ => rfl⟩
theorem Le.trans (a : Le ι H ι' H') (b : Le ι' H' ι2 H2) : Le ι H ι2 H2 := by
  obtain ⟨e, h1⟩ := a.pre
  obtain ⟨e2, h2⟩ := b.pre
  exact ⟨⟨e ++ e2, by rw [h2, h1, List.append_assoc]⟩, b.same.trans a.same, fun p xs h => b.tup p xs (a.tup p xs h), fun p o u h => b.frz p o u (a.frz p o u h), fun p xs h n => b.lst p xs (a.lst p xs h n).1 (a.lst p xs h n).2,
    fun p h => (b.keep p (by rw [a.same]; exact h)).trans (a.keep p h)⟩
theorem Le.at (a : Le ι H ι' H') {n : Nat} {p : Addr} (h : ι.a[n]? = some p) : ι'.a[n]? = some p := by
  obtain ⟨e, q⟩ := a.pre
  rw [q, List.getElem?_append_left (List.getElem?_eq_some_iff.mp h).1]
  exact h
theorem Le.sqT (l : Le ι H ι' H') {p : Addr} {xs : List V} (h : SqT K H p xs) : SqT K H' p xs := by
  rcases h with (h | ⟨o, h⟩) | h
  · exact .inl (.inl (l.tup _ _ h))
  · exact .inl (.inr ⟨o, l.frz _ _ _ h⟩)
  · exact .inr h
mutual
theorem Rp.mono (l : Le ι H ι' H') : ∀ (d : D) (v : V), Rp K ι H d v → Rp K ι' H' d v
  | .non, _, h => h
  | .bl _, _, h => h
  | .int _, _, h => h
  | .str _, _, h => h
  | .tup ds, v, h => by
    obtain ⟨p, xs, e, q, r⟩ := h
    exact ⟨p, xs, e, l.sqT q, Rps.mono l ds xs r⟩
  | .lst ds, v, h => by
    obtain ⟨p, xs, e, q, n, r⟩ := h
    exact ⟨p, xs, e, (l.lst p xs q n).1, (l.lst p xs q n).2, Rps.mono l ds xs r⟩
  | .ro ds, v, h => by
    obtain ⟨p, xs, e, q, r⟩ := h
    refine ⟨p, xs, e, ?_, Rps.mono l ds xs r⟩
    rcases q with ⟨o, q⟩ | q
    · exact .inl ⟨o, l.frz _ _ _ q⟩
    · exact .inr q
  | .ptr n, v, h => by
    obtain ⟨p, e, q⟩ := h
    exact ⟨p, e, l.at q⟩
theorem Rps.mono (l : Le ι H ι' H') : ∀ (ds : List D) (vs : List V), Rps K ι H ds vs → Rps K ι' H' ds vs
  | [], _, h => h
  | d :: ds, _, h => by
    obtain ⟨v, r, e, h1, h2⟩ := h
    exact ⟨v, r, e, Rp.mono l d v h1, Rps.mono l ds r h2⟩
end
theorem Rps.length : ∀ {ds : List D} {vs : List V}, Rps K ι H ds vs → vs.length = ds.length
  | [], _, h => by cases h; rfl
  | d :: ds, _, h => by
    obtain ⟨v, r, rfl, _, h2⟩ := h
    rw [List.length_cons, List.length_cons, Rps.length h2]
theorem Rps.get : ∀ {ds : List D} {vs : List V} {i : Nat} {d : D}, Rps K ι H ds vs → ds[i]? = some d → ∃ v, vs[i]? = some v ∧ Rp K ι H d v
  | [], _, _, _, _, h => by simp at h
  | d :: ds, _, 0, _, h, e => by
    obtain ⟨v, r, rfl, h1, _⟩ := h
    simp at e
    subst e
    exact ⟨v, rfl, h1⟩
  | d :: ds, _, i + 1, _, h, e => by
    obtain ⟨v, r, rfl, _, h2⟩ := h
    obtain ⟨w, e1, e2⟩ := Rps.get (i := i) h2 (by simpa using e)
    exact ⟨w, by simpa using e1, e2⟩
theorem Rps.append : ∀ {ds es : List D} {vs us : List V}, Rps K ι H ds vs → Rps K ι H es us → Rps K ι H (ds ++ es) (vs ++ us)
  | [], _, _, _, h, h' => by cases h; exact h'
  | d :: ds, _, _, _, h, h' => by
    obtain ⟨v, r, rfl, h1, h2⟩ := h
    exact ⟨v, r ++ _, rfl, h1, Rps.append h2 h'⟩
theorem Rps.take : ∀ {ds : List D} {vs : List V} (n : Nat), Rps K ι H ds vs → Rps K ι H (ds.take n) (vs.take n)
  | _, _, 0, _ => rfl
  | [], _, n + 1, h => by cases h; rfl
  | d :: ds, _, n + 1, h => by
    obtain ⟨v, r, rfl, h1, h2⟩ := h
    exact ⟨v, r.take n, rfl, h1, Rps.take n h2⟩
theorem Rps.drop : ∀ {ds : List D} {vs : List V} (n : Nat), Rps K ι H ds vs → Rps K ι H (ds.drop n) (vs.drop n)
  | _, _, 0, h => h
  | [], _, n + 1, h => by cases h; rfl
  | d :: ds, _, n + 1, h => by
    obtain ⟨v, r, rfl, h1, h2⟩ := h
    exact Rps.drop n h2
theorem Rps.set : ∀ {ds : List D} {vs : List V} {d : D} {v : V} (i : Nat), Rps K ι H ds vs → Rp K ι H d v → Rps K ι H (ds.set i d) (vs.set i v)
  | [], _, _, _, _, h, _ => by cases h; rfl
  | d :: ds, _, _, _, 0, h, h' => by
    obtain ⟨v, r, rfl, h1, h2⟩ := h
    exact ⟨_, r, rfl, h', h2⟩
  | d :: ds, _, _, _, i + 1, h, h' => by
    obtain ⟨v, r, rfl, h1, h2⟩ := h
    exact ⟨v, _, rfl, h1, Rps.set i h2 h'⟩
theorem Rps.one {d : D} {vs : List V} (h : Rps K ι H [d] vs) : ∃ v, vs = [v] ∧ Rp K ι H d v := by
  obtain ⟨v, r, rfl, h1, h2⟩ := h
  cases h2
  exact ⟨v, rfl, h1⟩
theorem Rps.mk1 {d : D} {v : V} (h : Rp K ι H d v) : Rps K ι H [d] [v] := ⟨v, [], rfl, h, rfl⟩
theorem Rps.ints : ∀ {ns : List Int} {vs : List V}, Rps K ι H (ns.map D.int) vs → vs = ns.map V.int
  | [], _, h => h
  | n :: ns, _, h => by
    obtain ⟨v, r, rfl, h1, h2⟩ := h
    rw [Rps.ints h2, (show v = V.int n from h1)]
    rfl
theorem Rps.ofInts : ∀ {ns : List Int}, Rps K ι H (ns.map D.int) (ns.map V.int)
  | [] => rfl
  | n :: ns => ⟨_, _, rfl, rfl, Rps.ofInts⟩
theorem Rps.strs : ∀ {ns : List Str} {vs : List V}, Rps K ι H (ns.map D.str) vs → vs = ns.map V.str
  | [], _, h => h
  | n :: ns, _, h => by
    obtain ⟨v, r, rfl, h1, h2⟩ := h
    rw [Rps.strs h2, (show v = V.str n from h1)]
    rfl
theorem Rps.bls : ∀ {ns : List Bool} {vs : List V}, Rps K ι H (ns.map D.bl) vs → vs = ns.map V.bl
  | [], _, h => h
  | n :: ns, _, h => by
    obtain ⟨v, r, rfl, h1, h2⟩ := h
    rw [Rps.bls h2, (show v = V.bl n from h1)]
    rfl
theorem Rps.reverse {ds : List D} {vs : List V} (h : Rps K ι H ds vs) : Rps K ι H ds.reverse vs.reverse := by
  induction ds generalizing vs with
  | nil => cases h; rfl
  | cons d ds ih =>
    obtain ⟨v, r, rfl, h1, h2⟩ := h
    rw [List.reverse_cons, List.reverse_cons]
    exact Rps.append (ih h2) (Rps.mk1 h1)
theorem Rps.dropLast {ds : List D} {vs : List V} (h : Rps K ι H ds vs) : Rps K ι H ds.dropLast vs.dropLast := by
  rw [List.dropLast_eq_take, List.dropLast_eq_take, h.length]
  exact h.take _

/-! ### the cells -/
/-- the dict of a kept exception -/
def XF (H : Hp) (d : Option Addr) : Option (Str × Int) → Prop
  | none => d = none
  | some (f, i) => ∃ dx o, d = some dx ∧ H dx = some (.frz o (.xd [(f, .int i)]))
theorem XF.imp {d : Option Addr} (z : ∀ q o u, H q = some (.frz o u) → H' q = some (.frz o u)) : ∀ {a : Option (Str × Int)}, XF H d a → XF H' d a
  | none, h => h
  | some (f, i), ⟨dx, o, e, h⟩ => ⟨dx, o, e, z _ _ _ h⟩
def CellOk (K : PySem.W.Frag) (ι : Ct) (H : Hp) (p : Addr) : Cell → Prop
  | .lst ds => ∃ xs, H p = some (.lst xs) ∧ Rps K ι H ds xs
  | .obj nm fs => ∃ C dx vs, PySem.W.nsIn K mainGlobals nm = some (some (.ref C)) ∧ H p = some (.ins C dx vs) ∧ vs.map (·.1) = fs.map (·.1) ∧ Rps K ι H (fs.map (·.2)) (vs.map (·.2))
  | .dK fs => ∃ vs, H p = some (.dK vs) ∧ vs.map (·.1) = fs.map (·.1) ∧ Rps K ι H (fs.map (·.2)) (vs.map (·.2))
  | .dT fs => ∃ vs, H p = some (.dT vs) ∧ vs.map (·.1) = fs.map (·.1) ∧ Rps K ι H (fs.map (·.2)) (vs.map (·.2))
  | .exn c a => ∃ (oe : Obj) (C : Addr), PySem.W.nsIn K mainGlobals c = some (some (.ref C)) ∧ H p = some (.ext fun h => h.get? p = some oe) ∧ oe.cls = .ref C ∧ (∃ vs, oe.data = .fields vs) ∧ XF H oe.dict a
theorem CellOk.mono (l : Le ι H ι' H') {p : Addr} (e : H' p = H p) : ∀ {c : Cell}, CellOk K ι H p c → CellOk K ι' H' p c
  | .lst ds, h => by
    obtain ⟨xs, h1, h2⟩ := h
    exact ⟨xs, by rw [e]; exact h1, Rps.mono l _ _ h2⟩
  | .obj nm fs, h => by
    obtain ⟨C, dx, vs, h0, h1, h2, h3⟩ := h
    exact ⟨C, dx, vs, h0, by rw [e]; exact h1, h2, Rps.mono l _ _ h3⟩
  | .dK fs, h => by
    obtain ⟨vs, h1, h2, h3⟩ := h
    exact ⟨vs, by rw [e]; exact h1, h2, Rps.mono l _ _ h3⟩
  | .dT fs, h => by
    obtain ⟨vs, h1, h2, h3⟩ := h
    exact ⟨vs, by rw [e]; exact h1, h2, Rps.mono l _ _ h3⟩
  | .exn c a, h => by
    obtain ⟨oe, C, h0, h1, h2, h3, h4⟩ := h
    exact ⟨oe, C, h0, by rw [e]; exact h1, h2, h3, h4.imp l.frz⟩
theorem CellOk.there {p : Addr} {c : Cell} (h : CellOk K ι H p c) : H p ≠ none ∧ (∀ xs, H p ≠ some (.tup xs)) ∧ ∀ o u, H p ≠ some (.frz o u) := by
  cases c with
  | lst ds =>
    obtain ⟨xs, h1, _⟩ := h
    exact ⟨(fun e => by rw [h1] at e; cases e), (fun _ e => by rw [h1] at e; cases e), (fun _ _ e => by rw [h1] at e; cases e)⟩
  | obj nm fs =>
    obtain ⟨C, dx, vs, _, h1, _⟩ := h
    exact ⟨(fun e => by rw [h1] at e; cases e), (fun _ e => by rw [h1] at e; cases e), (fun _ _ e => by rw [h1] at e; cases e)⟩
  | dK fs =>
    obtain ⟨vs, h1, _⟩ := h
    exact ⟨(fun e => by rw [h1] at e; cases e), (fun _ e => by rw [h1] at e; cases e), (fun _ _ e => by rw [h1] at e; cases e)⟩
  | exn x y =>
    obtain ⟨oe, C, _, h1, _⟩ := h
    exact ⟨(fun e => by rw [h1] at e; cases e), (fun _ e => by rw [h1] at e; cases e), (fun _ _ e => by rw [h1] at e; cases e)⟩
  | dT fs =>
    obtain ⟨vs, h1, _⟩ := h
    exact ⟨(fun e => by rw [h1] at e; cases e), (fun _ e => by rw [h1] at e; cases e), (fun _ _ e => by rw [h1] at e; cases e)⟩
structure Rel (K : PySem.W.Frag) (ι : Ct) (H : Hp) (ms : MS) : Prop where
  len : ι.a.length = ms.length
  nd : ι.a.Nodup
  ok : ∀ (n : Nat) (p : Addr) (c : Cell), ι.a[n]? = some p → ms[n]? = some c → CellOk K ι H p c
  fb : ∀ p, p ∈ ι.f → p ∉ ι.a ∧ ∃ xs, H p = some (.lst xs)
variable {ms ms' : MS} {p : Addr} {o : HO}
theorem Rel.cell (R : Rel K ι H ms) {n : Nat} {p : Addr} (h : ι.a[n]? = some p) : ∃ c, ms[n]? = some c ∧ CellOk K ι H p c := by
  have hn : n < ms.length := by rw [← R.len]; exact (List.getElem?_eq_some_iff.mp h).1
  exact ⟨ms[n], List.getElem?_eq_getElem hn, R.ok n p _ h (List.getElem?_eq_getElem hn)⟩
theorem Rel.addr (R : Rel K ι H ms) {n : Nat} {c : Cell} (h : ms[n]? = some c) : ∃ p, ι.a[n]? = some p ∧ CellOk K ι H p c := by
  have hn : n < ι.a.length := by rw [R.len]; exact (List.getElem?_eq_some_iff.mp h).1
  exact ⟨ι.a[n], List.getElem?_eq_getElem hn, R.ok n _ c (List.getElem?_eq_getElem hn) h⟩
theorem Rel.fresh (R : Rel K ι H ms) (hp : H p = none) : ι.no p := ⟨fun hm => by
  obtain ⟨n, hn⟩ := List.getElem?_of_mem hm
  obtain ⟨c, _, h⟩ := R.cell hn
  exact h.there.1 hp, fun hm => by
  obtain ⟨_, xs, e⟩ := R.fb p hm
  rw [hp] at e
  cases e⟩
theorem Le.new (R : Rel K ι H ms) (hp : H p = none) : Le ι H ι (upd H p o) :=
  ⟨⟨[], by simp⟩, rfl, fun q xs h => by rw [upd_ne (ne_of_none h hp)]; exact h, fun q _ _ h => by rw [upd_ne (ne_of_none h hp)]; exact h, fun q xs h n => ⟨by rw [upd_ne (ne_of_none h hp)]; exact h, n⟩,
    fun q hq => upd_ne fun (e : q = p) => (R.fresh hp).2 (e ▸ hq)⟩
theorem Le.newM (R : Rel K ι H ms) (hp : H p = none) : Le ι H (ι.push p) (upd H p o) :=
  ⟨⟨[p], rfl⟩, rfl, fun q xs h => by rw [upd_ne (ne_of_none h hp)]; exact h, fun q _ _ h => by rw [upd_ne (ne_of_none h hp)]; exact h, fun q xs h n => ⟨by rw [upd_ne (ne_of_none h hp)]; exact h, fun hm => by
    rcases List.mem_append.mp hm with z | z
    · exact n.1 z
    · exact ne_of_none h hp (by simpa using z), n.2⟩, fun q hq => upd_ne fun (e : q = p) => (R.fresh hp).2 (e ▸ hq)⟩
theorem Rel.fb_upd (R : Rel K ι H ms) (n : ι.no p) : ∀ q, q ∈ ι.f → ∃ xs, upd H p o q = some (.lst xs) := fun q hq => by
  obtain ⟨_, xs, e⟩ := R.fb q hq
  exact ⟨xs, by rw [upd_ne fun (z : q = p) => n.2 (z ▸ hq)]; exact e⟩
theorem Rel.new (R : Rel K ι H ms) (hp : H p = none) : Rel K ι (upd H p o) ms :=
  ⟨R.len, R.nd, fun n q c h1 h2 => (R.ok n q c h1 h2).mono (Le.new R hp) (upd_ne fun (e : q = p) => (R.ok n q c h1 h2).there.1 (e ▸ hp)), fun q hq => ⟨(R.fb q hq).1, R.fb_upd (R.fresh hp) q hq⟩⟩
theorem Rel.newM (R : Rel K ι H ms) (hp : H p = none) {c : Cell} (hc : CellOk K (ι.push p) (upd H p o) p c) : Rel K (ι.push p) (upd H p o) (ms ++ [c]) := by
  refine ⟨by simp [Ct.push, R.len], ?_, fun n q d h1 h2 => ?_, fun q hq => ⟨fun hm => ?_, R.fb_upd (R.fresh hp) q hq⟩⟩
  · show (ι.a ++ [p]).Nodup
    rw [List.nodup_append]
    refine ⟨R.nd, by simp, fun a ha b hb e => ?_⟩
    have : b = p := by simpa using hb
    subst this
    subst e
    exact (R.fresh hp).1 ha
  · have h1' : (ι.a ++ [p])[n]? = some q := h1
    by_cases hn : n < ι.a.length
    · rw [List.getElem?_append_left hn] at h1'
      rw [List.getElem?_append_left (by rw [← R.len]; exact hn)] at h2
      exact (R.ok n q d h1' h2).mono (Le.newM R hp) (upd_ne fun (e : q = p) => (R.ok n q d h1' h2).there.1 (e ▸ hp))
    · rw [List.getElem?_append_right (by omega)] at h1'
      rw [List.getElem?_append_right (by rw [← R.len]; omega), ← R.len] at h2
      have hz : n - ι.a.length = 0 := by
        have := (List.getElem?_eq_some_iff.mp h1').1
        simp only [List.length_cons, List.length_nil] at this
        omega
      rw [hz] at h1' h2
      simp at h1' h2
      subst h1'
      subst h2
      exact hc
  · rcases List.mem_append.mp hm with z | z
    · exact (R.fb q hq).1 z
    · exact (R.fresh hp).2 (by
        have e : q = p := by simpa using z
        exact e ▸ hq)
theorem Rel.notf (R : Rel K ι H ms) {n : Nat} (hn : ι.a[n]? = some p) : p ∉ ι.f := fun hm => (R.fb p hm).1 (List.mem_of_getElem? hn)
theorem Le.write (R : Rel K ι H ms) {n : Nat} (hn : ι.a[n]? = some p) : Le ι H ι (upd H p o) := by
  obtain ⟨c, _, hc⟩ := R.cell hn
  refine ⟨⟨[], by simp⟩, rfl, fun q xs h => ?_, fun q ob u h => ?_, fun q xs h nq => ⟨?_, nq⟩, fun q hq => upd_ne fun (e : q = p) => R.notf hn (e ▸ hq)⟩
  · rw [upd_ne]
    · exact h
    · rintro rfl
      exact hc.there.2.1 _ h
  · rw [upd_ne]
    · exact h
    · rintro rfl
      exact hc.there.2.2 _ _ h
  · rw [upd_ne]
    · exact h
    · rintro rfl
      exact nq.1 (List.mem_of_getElem? hn)
theorem Rel.write (R : Rel K ι H ms) {n : Nat} {c : Cell} (hn : ι.a[n]? = some p) (hc : CellOk K ι (upd H p o) p c) : Rel K ι (upd H p o) (ms.set n c) := by
  refine ⟨by simp [R.len], R.nd, fun m q d h1 h2 => ?_, fun q hq => ⟨(R.fb q hq).1, ?_⟩⟩
  · by_cases e : m = n
    · subst e
      rw [hn] at h1
      cases h1
      have hm : m < ms.length := by rw [← R.len]; exact (List.getElem?_eq_some_iff.mp hn).1
      rw [List.getElem?_set_self hm] at h2
      cases h2
      exact hc
    · rw [List.getElem?_set_ne (Ne.symm e)] at h2
      exact (R.ok m q d h1 h2).mono (Le.write R hn) (upd_ne fun (z : q = p) => e (nd_ix R.nd h1 (z ▸ hn)))
  · obtain ⟨_, xs, e⟩ := R.fb q hq
    exact ⟨xs, by rw [upd_ne fun (z : q = p) => R.notf hn (z ▸ hq)]; exact e⟩
/-! a list that is being made: no data bears it -/
def Ct.ban (ι : Ct) (p : Addr) : Ct := ⟨ι.a, p :: ι.f⟩
theorem Ct.ban_no {p q : Addr} : (ι.ban p).no q ↔ ι.no q ∧ q ≠ p := by
  unfold Ct.ban Ct.no
  simp only [List.mem_cons, not_or]
  exact ⟨fun h => ⟨⟨h.1, h.2.2⟩, h.2.1⟩, fun h => ⟨h.1.1, h.2, h.1.2⟩⟩
mutual
/-- what is borne is borne too where a new list is put at p, or where the list at p is another one -/
theorem Rp.ban {p : Addr} (l : ∀ q xs, H q = some (.lst xs) → ι.no q → H' q = some (.lst xs) ∧ ι'.no q) (t : ∀ q xs, H q = some (.tup xs) → H' q = some (.tup xs)) (z : ∀ q o u, H q = some (.frz o u) → H' q = some (.frz o u)) (a : ∀ (n : Nat) (q : Addr), ι.a[n]? = some q → ι'.a[n]? = some q) : ∀ (d : D) (v : V), Rp K ι H d v → Rp K ι' H' d v
  | .non, _, h => h
  | .bl _, _, h => h
  | .int _, _, h => h
  | .str _, _, h => h
  | .tup ds, v, h => by
    obtain ⟨q, xs, e, hq, r⟩ := h
    refine ⟨q, xs, e, ?_, Rps.ban (p := p) l t z a ds xs r⟩
    rcases hq with (hq | ⟨o, hq⟩) | hq
    · exact .inl (.inl (t _ _ hq))
    · exact .inl (.inr ⟨o, z _ _ _ hq⟩)
    · exact .inr hq
  | .lst ds, v, h => by
    obtain ⟨q, xs, e, hq, n, r⟩ := h
    exact ⟨q, xs, e, (l q xs hq n).1, (l q xs hq n).2, Rps.ban (p := p) l t z a ds xs r⟩
  | .ro ds, v, h => by
    obtain ⟨q, xs, e, hq, r⟩ := h
    refine ⟨q, xs, e, ?_, Rps.ban (p := p) l t z a ds xs r⟩
    rcases hq with ⟨o, hq⟩ | hq
    · exact .inl ⟨o, z _ _ _ hq⟩
    · exact .inr hq
  | .ptr n, v, h => by
    obtain ⟨q, e, hq⟩ := h
    exact ⟨q, e, a n q hq⟩
theorem Rps.ban {p : Addr} (l : ∀ q xs, H q = some (.lst xs) → ι.no q → H' q = some (.lst xs) ∧ ι'.no q) (t : ∀ q xs, H q = some (.tup xs) → H' q = some (.tup xs)) (z : ∀ q o u, H q = some (.frz o u) → H' q = some (.frz o u)) (a : ∀ (n : Nat) (q : Addr), ι.a[n]? = some q → ι'.a[n]? = some q) : ∀ (ds : List D) (vs : List V), Rps K ι H ds vs → Rps K ι' H' ds vs
  | [], _, h => h
  | d :: ds, _, h => by
    obtain ⟨v, r, e, h1, h2⟩ := h
    exact ⟨v, r, e, Rp.ban (p := p) l t z a d v h1, Rps.ban (p := p) l t z a ds r h2⟩
end
end

/-! ### readings by data -/
abbrev EW := Exc → Ct → Hp → Prop
def EnvOk (K : PySem.W.Frag) (ι : Ct) (H : Hp) (env : Env) (σ : St) : Prop :=
  σ.length = env.length ∧ ∀ (i : Nat) (d : D), env[i]? = some (some d) → ∃ v : V, σ[i]? = some (some v) ∧ Rp K ι H d v
theorem EnvOk.mono {K : PySem.W.Frag} {ι ι' : Ct} {H H' : Hp} {env : Env} {σ : St} (l : Le ι H ι' H') (h : EnvOk K ι H env σ) : EnvOk K ι' H' env σ :=
  ⟨h.1, fun i d e => let ⟨v, a, b⟩ := h.2 i d e; ⟨v, a, Rp.mono l d v b⟩⟩
theorem EnvOk.set {K : PySem.W.Frag} {ι : Ct} {H : Hp} {env : Env} {σ : St} (h : EnvOk K ι H env σ) {d : D} {v : V} (r : Rp K ι H d v) (i : Nat) : EnvOk K ι H (env.set i (some d)) (σ.set i (some v)) := by
  refine ⟨by simp [h.1], fun j e hj => ?_⟩
  by_cases q : j = i
  · subst q
    have hl : j < env.length := by
      have := (List.getElem?_eq_some_iff.mp hj).1
      simpa using this
    rw [List.getElem?_set_self hl] at hj
    cases hj
    exact ⟨v, by rw [List.getElem?_set_self (by rw [h.1]; exact hl)], r⟩
  · rw [List.getElem?_set_ne (Ne.symm q)] at hj
    rw [List.getElem?_set_ne (Ne.symm q)]
    exact h.2 j e hj

/-- an outcome: R how the result a is borne by b -/
def Out {α β : Type} (K : PySem.W.Frag) (E : EW) (R : Ct → Hp → α → β → Prop) (ι : Ct) (H : Hp) (r : Res α) (Q : β → Hp → Prop) : Prop := match r with
  | .bad => False
  | .ok a ms' => ∀ b ι' H', Rel K ι' H' ms' → Le ι H ι' H' → R ι' H' a b → Q b H'
  | .exc x ms' => ∀ ι' H', Rel K ι' H' ms' → Le ι H ι' H' → E x ι' H'
theorem Out.from {α β : Type} {K : PySem.W.Frag} {E : EW} {R : Ct → Hp → α → β → Prop} {ι ι' : Ct} {H H' : Hp} {r : Res α} {Q : β → Hp → Prop} (l : Le ι H ι' H') (o : Out K E R ι H r Q) : Out K E R ι' H' r Q := by
  cases r with
  | bad => exact o
  | ok a ms => exact fun b ι2 H2 r2 l2 q => o b ι2 H2 r2 (l.trans l2) q
  | exc x ms => exact fun ι2 H2 r2 l2 => o ι2 H2 r2 (l.trans l2)
def tR {α β : Type} (K : PySem.W.Frag) (E : EW) (R : Ct → Hp → α → β → Prop) (f : Env → MS → Res α) : St → Hp → (β → Hp → Prop) → Prop := fun σ H Q =>
  ∃ ι env ms, Rel K ι H ms ∧ EnvOk K ι H env σ ∧ Out K E R ι H (f env ms) Q
abbrev tD (K : PySem.W.Frag) (E : EW) (f : Env → MS → Res D) : TE := tR K E (Rp K) f
abbrev REq {α : Type} : Ct → Hp → α → α → Prop := fun _ _ a b => b = a
abbrev tT (K : PySem.W.Frag) (E : EW) (f : Env → MS → Res Bool) : TT := tR K E REq f
abbrev tAr (K : PySem.W.Frag) (E : EW) (f : Env → MS → Res (List D)) : TA := tR K E (Rps K) f
abbrev tOI (K : PySem.W.Frag) (E : EW) (f : Env → MS → Res (Option Int)) : TO := tR K E REq f
/-- the state behind a part -/
structure Bh {α β : Type} (K : PySem.W.Frag) (R : Ct → Hp → α → β → Prop) (ι : Ct) (H : Hp) (env : Env) (σ : St) (ι1 : Ct) (H1 : Hp) (ms1 : MS) (a : α) (b : β) : Prop where
  rel : Rel K ι1 H1 ms1
  env : EnvOk K ι1 H1 env σ
  le : Le ι H ι1 H1
  r : R ι1 H1 a b
theorem tR_seq {α β γ δ : Type} {K : PySem.W.Frag} {E : EW} {R : Ct → Hp → α → β → Prop} {R2 : Ct → Hp → γ → δ → Prop} {f : Env → MS → Res α} {k : α → MS → Res γ} {σ : St} {ι : Ct} {H : Hp} {env : Env} {ms : MS} {Q : δ → Hp → Prop} {Q' : β → Hp → Prop}
    (r : Rel K ι H ms) (ev : EnvOk K ι H env σ) (o : Out K E R2 ι H ((f env ms).bind k) Q)
    (h : ∀ ι1 H1 ms1 a b, Bh K R ι H env σ ι1 H1 ms1 a b → Out K E R2 ι1 H1 (k a ms1) Q → Q' b H1) : tR K E R f σ H Q' := by
  refine ⟨ι, env, ms, r, ev, ?_⟩
  cases e : f env ms with
  | bad => rw [e] at o; exact o
  | ok a ms1 =>
    rw [e] at o
    exact fun b ι1 H1 r1 l1 q1 => h ι1 H1 ms1 a b ⟨r1, ev.mono l1, l1, q1⟩ (Out.from l1 o)
  | exc x ms1 => rw [e] at o; exact o

theorem PE.conv {X : Cx} {e : Expr} {t t' : TE} (h : PE X e t) (c : ∀ σ H Q, t' σ H Q → t σ H Q) : PE X e t' := ⟨fun pins s σ H Q I q => h.run pins s σ H Q I (c σ H Q q)⟩
theorem PT.conv {X : Cx} {e : Expr} {t t' : TT} (h : PT X e t) (c : ∀ σ H Q, t' σ H Q → t σ H Q) : PT X e t' := ⟨fun pins s σ H Q I q => h.run pins s σ H Q I (c σ H Q q)⟩
theorem PA.conv {X : Cx} {e : List Expr} {t t' : TA} (h : PA X e t) (c : ∀ σ H Q, t' σ H Q → t σ H Q) : PA X e t' := ⟨fun pos pins s σ H Q I q => h.run pos pins s σ H Q I (c σ H Q q)⟩
theorem PS.conv {X : Cx} {e : Stmt} {t t' : TS} (h : PS X e t) (c : ∀ σ H D, t' D σ H → t D σ H) : PS X e t' := ⟨fun pins s σ H D I q => h.run pins s σ H D I (c σ H D q)⟩
theorem PSs.conv {X : Cx} {e : List Stmt} {t t' : TS} (h : PSs X e t) (c : ∀ σ H D, t' D σ H → t D σ H) : PSs X e t' := ⟨fun pins s σ H D I q => h.run pins s σ H D I (c σ H D q)⟩
end DL

set_option maxHeartbeats 1000000
namespace DL
open PySem PySem.Spec L2
open PyProof.Rows hiding St

/-! ### meanings of expressions -/
@[simp] def varE (i : Nat) (env : Env) (ms : MS) : Res D := match env[i]? with
  | some (some d) => .ok d ms
  | _ => .bad
@[simp] def cE (d : D) (_ : Env) (ms : MS) : Res D := .ok d ms
@[simp] def binE (f g : Env → MS → Res D) (p : D → D → MS → Res D) (env : Env) (ms : MS) : Res D := (f env ms).bind fun a ms1 => (g env ms1).bind fun b ms2 => p a b ms2
@[simp] def unE (f : Env → MS → Res D) (p : D → MS → Res D) (env : Env) (ms : MS) : Res D := (f env ms).bind p
@[simp] def nilA (_ : Env) (ms : MS) : Res (List D) := .ok [] ms
@[simp] def consA (f : Env → MS → Res D) (g : Env → MS → Res (List D)) (env : Env) (ms : MS) : Res (List D) := (f env ms).bind fun a ms1 => (g env ms1).bind fun r ms2 => .ok (a :: r) ms2
@[simp] def appE (g : Env → MS → Res (List D)) (p : List D → MS → Res D) (env : Env) (ms : MS) : Res D := (g env ms).bind p
@[simp] def valT (f : Env → MS → Res D) (env : Env) (ms : MS) : Res Bool := (f env ms).bind fun d ms1 => match d with
  | .bl b => .ok b ms1
  | _ => .bad

section
variable {X : Cx} {E : EW}
abbrev DE (X : Cx) (E : EW) (e : Expr) (f : Env → MS → Res D) : Prop := PE X e (tD X.K E f)
abbrev DT (X : Cx) (E : EW) (e : Expr) (f : Env → MS → Res Bool) : Prop := PT X e (tT X.K E f)
abbrev DA (X : Cx) (E : EW) (es : List Expr) (f : Env → MS → Res (List D)) : Prop := PA X es (tAr X.K E f)

theorem d_var {i : Nat} {e : Expr} (h : PE X e (tVar i)) : DE X E e (varE i) := PE.conv h fun σ H Q ⟨ι, env, ms, r, ev, o⟩ => by
  unfold varE at o
  cases q : env[i]? with
  | none => rw [q] at o; exact o.elim
  | some d =>
    cases d with
    | none => rw [q] at o; exact o.elim
    | some d =>
      rw [q] at o
      obtain ⟨v, e1, e2⟩ := ev.2 i d q
      exact ⟨v, e1, o v ι H r .refl e2⟩
theorem d_c {e : Expr} {v : V} {d : D} (h : PE X e (tC v)) (hr : ∀ ι H, Rp X.K ι H d v) : DE X E e (cE d) := PE.conv h fun σ H Q ⟨ι, env, ms, r, ev, o⟩ => o v ι H r .refl (hr ι H)
theorem d_int {i j pos} : DE X E (.Constant (.int i) j pos) (cE (.int i)) := d_c pe_int fun _ _ => rfl
theorem d_bl {i j pos} : DE X E (.Constant (.bool i) j pos) (cE (.bl i)) := d_c pe_bl fun _ _ => rfl
theorem d_non {j pos} : DE X E (.Constant .none j pos) (cE .non) := d_c pe_non fun _ _ => rfl
theorem d_str {i j pos} : DE X E (.Constant (.str i) j pos) (cE (.str i)) := d_c pe_str fun _ _ => rfl

/-- an operation of two values -/
abbrev P2 (K : PySem.W.Frag) (E : EW) (r : R2) (p : D → D → MS → Res D) : Prop :=
  ∀ (ι : Ct) (H : Hp) (ms : MS) (a b : D) (x y : V) (Q : VK), Rel K ι H ms → Rp K ι H a x → Rp K ι H b y → Out K E (Rp K) ι H (p a b ms) Q → r x y H Q
theorem two {f g : Env → MS → Res D} {p : D → D → MS → Res D} {r : R2} {K : PySem.W.Frag} (hp : P2 K E r p) {σ : St} {H : Hp} {Q : VK} (h : tD K E (binE f g p) σ H Q) : tOp r (tD K E f) (tD K E g) σ H Q := by
  obtain ⟨ι, env, ms, r0, ev, o⟩ := h
  refine tR_seq r0 ev o fun ι1 H1 ms1 a x B1 o1 => ?_
  refine tR_seq B1.rel B1.env o1 fun ι2 H2 ms2 b y B2 o2 => ?_
  exact hp ι2 H2 ms2 a b x y Q B2.rel (Rp.mono B2.le _ _ B1.r) B2.r o2
theorem d_op {op : Operator} {r : R2} {p : D → D → MS → Res D} {a b : Expr} {f g : Env → MS → Res D} {pos : Pos} (ho : OpR X (binaryOp op) r) (hp : P2 X.K E r p) (ha : DE X E a f) (hb : DE X E b g) : DE X E (.BinOp a op b pos) (binE f g p) :=
  PE.conv (pe_op ho ha hb) fun _ _ _ h => two hp h
theorem d_cmp {op : CmpOp} {r : R2} {p : D → D → MS → Res D} {a b : Expr} {f g : Env → MS → Res D} {pos : Pos} (ho : OpR X (compareOp op) r) (hp : P2 X.K E r p) (ha : DE X E a f) (hb : DE X E b g) (hm : behindInMarks op b = false) : DE X E (.Compare a [op] [b] pos) (binE f g p) :=
  PE.conv (pe_cmpR ho ha hb hm) fun _ _ _ h => two hp h
theorem val_test {f : Env → MS → Res D} {K : PySem.W.Frag} {σ : St} {H : Hp} {Q : Bool → Hp → Prop} (h : tT K E (valT f) σ H Q) : tTest (tD K E f) σ H Q := by
  obtain ⟨ι, env, ms, r0, ev, o⟩ := h
  refine tR_seq r0 ev o fun ι1 H1 ms1 a x B1 o1 => ?_
  cases a with
  | bl k => exact ⟨k, B1.r, o1 k ι1 H1 B1.rel .refl rfl⟩
  | _ => exact o1.elim
theorem PE.convT {e : Expr} {t : TE} {t' : TT} (h : PT X e (tTest t)) (c : ∀ σ H Q, t' σ H Q → tTest t σ H Q) : PT X e t' := PT.conv h c
/-- an expression whose value is a truth, as a test -/
theorem t_val {e : Expr} {f : Env → MS → Res D} (h : DE X E e f) (he : ∀ whole, isTrue e X.env whole = (do let v ← whole; standAt e.pos; holding [v] (truthy v)) := by intro _; rfl) : DT X E e (valT f) :=
  PT.conv (pt_val h he) fun _ _ _ q => val_test q
theorem t_cmp {op : CmpOp} {r : R2} {p : D → D → MS → Res D} {a b : Expr} {f g : Env → MS → Res D} {pos : Pos} (ho : OpR X (compareOp op) r) (hp : P2 X.K E r p) (ha : DE X E a f) (hb : DE X E b g) (hm : behindInMarks op b = false) : DT X E (.Compare a [op] [b] pos) (valT (binE f g p)) :=
  PT.conv (pt_cmpR ho ha hb hm) fun σ H Q q => by
    obtain ⟨ι, env, ms, r0, ev, o⟩ := q
    refine two hp (σ := σ) (H := H) ?_
    refine tR_seq (k := fun d ms1 => (match d with | .bl b => Res.ok b ms1 | _ => .bad)) r0 ev o fun ι1 H1 ms1 a x B1 o1 => ?_
    cases a with
    | bl k => exact ⟨k, B1.r, o1 k ι1 H1 B1.rel .refl rfl⟩
    | _ => exact o1.elim
end

/-! ### and, or, not; a if t else b -/
@[simp] def andT (f g : Env → MS → Res Bool) (env : Env) (ms : MS) : Res Bool := (f env ms).bind fun b ms1 => if b = true then g env ms1 else .ok false ms1
@[simp] def orT (f g : Env → MS → Res Bool) (env : Env) (ms : MS) : Res Bool := (f env ms).bind fun b ms1 => if b = true then .ok true ms1 else g env ms1
@[simp] def notT (f : Env → MS → Res Bool) (env : Env) (ms : MS) : Res Bool := (f env ms).bind fun b ms1 => .ok (!b) ms1
@[simp] def iteE (t : Env → MS → Res Bool) (f g : Env → MS → Res D) (env : Env) (ms : MS) : Res D := (t env ms).bind fun b ms1 => if b = true then f env ms1 else g env ms1
/-- the value of an and, an or whose parts (but the last one) are truths; not of a truth -/
@[simp] def andE (f g : Env → MS → Res D) (env : Env) (ms : MS) : Res D := (f env ms).bind fun d ms1 => match d with
  | .bl b => if b = true then g env ms1 else .ok (.bl false) ms1
  | _ => .bad
@[simp] def orE (f g : Env → MS → Res D) (env : Env) (ms : MS) : Res D := (f env ms).bind fun d ms1 => match d with
  | .bl b => if b = true then .ok (.bl true) ms1 else g env ms1
  | _ => .bad
@[simp] def notE (f : Env → MS → Res D) (env : Env) (ms : MS) : Res D := (f env ms).bind fun d ms1 => match d with
  | .bl b => .ok (.bl (!b)) ms1
  | _ => .bad
section
variable {X : Cx} {E : EW} {a b c : Expr} {rest : List Expr} {pos : Pos} {f g h' : Env → MS → Res Bool} {fe ge : Env → MS → Res D}
abbrev DW (X : Cx) (E : EW) (e : Expr) (f : Env → MS → Res Bool) : Prop := PW X e (tT X.K E f)
theorem PW.conv {e : Expr} {t t' : TT} (h : PW X e t) (c : ∀ σ H Q, t' σ H Q → t σ H Q) : PW X e t' := ⟨fun wh pins s σ H Q I q => h.run wh pins s σ H Q I (c σ H Q q)⟩
theorem w_and1 (ha : DT X E a f) : DW X E (.BoolOp .And [a] pos) f := pw_and1 ha
theorem w_or1 (ha : DT X E a f) : DW X E (.BoolOp .Or [a] pos) f := pw_or1 ha
theorem w_and (ha : DT X E a f) (hb : DW X E (.BoolOp .And (b :: rest) pos) g) : DW X E (.BoolOp .And (a :: b :: rest) pos) (andT f g) :=
  PW.conv (pw_and ha hb) fun σ H Q ⟨ι, env, ms, r0, ev, o⟩ => by
    refine tR_seq r0 ev o fun ι1 H1 ms1 k x B1 o1 => ?_
    obtain rfl : x = k := B1.r
    cases x with
    | true => exact ⟨ι1, env, ms1, B1.rel, B1.env, o1⟩
    | false => exact o1 false ι1 H1 B1.rel .refl rfl
theorem w_or (ha : DT X E a f) (hb : DW X E (.BoolOp .Or (b :: rest) pos) g) : DW X E (.BoolOp .Or (a :: b :: rest) pos) (orT f g) :=
  PW.conv (pw_or ha hb) fun σ H Q ⟨ι, env, ms, r0, ev, o⟩ => by
    refine tR_seq r0 ev o fun ι1 H1 ms1 k x B1 o1 => ?_
    obtain rfl : x = k := B1.r
    cases x with
    | true => exact o1 true ι1 H1 B1.rel .refl rfl
    | false => exact ⟨ι1, env, ms1, B1.rel, B1.env, o1⟩
theorem t_w {e : Expr} (h : DW X E e f) : DT X E e f := PW.pt h
theorem t_not (ha : DT X E a f) : DT X E (.UnaryOp .Not a pos) (notT f) :=
  PT.conv (pt_not ha) fun σ H Q ⟨ι, env, ms, r0, ev, o⟩ => tR_seq r0 ev o fun ι1 H1 ms1 k x B1 o1 => by
    obtain rfl : x = k := B1.r
    exact o1 _ ι1 H1 B1.rel .refl rfl
theorem d_ite (hc : DT X E c f) (ha : DE X E a fe) (hb : DE X E b ge) : DE X E (.IfExp c a b pos) (iteE f fe ge) :=
  PE.conv (pe_ifExp hc ha hb) fun σ H Q ⟨ι, env, ms, r0, ev, o⟩ => by
    refine tR_seq r0 ev o fun ι1 H1 ms1 k x B1 o1 => ?_
    obtain rfl : x = k := B1.r
    cases x with
    | true => exact ⟨ι1, env, ms1, B1.rel, B1.env, o1⟩
    | false => exact ⟨ι1, env, ms1, B1.rel, B1.env, o1⟩
theorem d_one {op} (ha : DE X E a fe) : DE X E (.BoolOp op [a] pos) fe := pe_one ha
theorem d_and (ha : DE X E a fe) (hb : DE X E (.BoolOp .And (b :: rest) pos) ge) : DE X E (.BoolOp .And (a :: b :: rest) pos) (andE fe ge) :=
  PE.conv (pe_and ha hb) fun σ H Q ⟨ι, env, ms, r0, ev, o⟩ => by
    refine tR_seq r0 ev o fun ι1 H1 ms1 d x B1 o1 => ?_
    cases d with
    | bl k =>
      refine ⟨k, B1.r, ?_⟩
      cases k with
      | true => exact ⟨ι1, env, ms1, B1.rel, B1.env, o1⟩
      | false => exact o1 _ ι1 H1 B1.rel .refl rfl
    | _ => exact o1.elim
theorem d_or (ha : DE X E a fe) (hb : DE X E (.BoolOp .Or (b :: rest) pos) ge) : DE X E (.BoolOp .Or (a :: b :: rest) pos) (orE fe ge) :=
  PE.conv (pe_or ha hb) fun σ H Q ⟨ι, env, ms, r0, ev, o⟩ => by
    refine tR_seq r0 ev o fun ι1 H1 ms1 d x B1 o1 => ?_
    cases d with
    | bl k =>
      refine ⟨k, B1.r, ?_⟩
      cases k with
      | true => exact o1 _ ι1 H1 B1.rel .refl rfl
      | false => exact ⟨ι1, env, ms1, B1.rel, B1.env, o1⟩
    | _ => exact o1.elim
theorem d_not (ha : DE X E a fe) : DE X E (.UnaryOp .Not a pos) (notE fe) :=
  PE.conv (pe_not ha) fun σ H Q ⟨ι, env, ms, r0, ev, o⟩ => by
    refine tR_seq r0 ev o fun ι1 H1 ms1 d x B1 o1 => ?_
    cases d with
    | bl k => exact ⟨k, B1.r, o1 _ ι1 H1 B1.rel .refl rfl⟩
    | _ => exact o1.elim
end

/-! ### lists and tuples as data -/
@[simp] def seqOf (ms : MS) : D → Option (List D)
  | .tup ds => some ds
  | .lst ds => some ds
  | .ro ds => some ds
  | .ptr n => match ms[n]? with
    | some (.lst ds) => some ds
    | _ => none
  | _ => none
@[simp] def lstOf (ms : MS) : D → Option (List D)
  | .lst ds => some ds
  | .ptr n => match ms[n]? with
    | some (.lst ds) => some ds
    | _ => none
  | _ => none
@[simp] def rlOf (ms : MS) : D → Option (List D)
  | .lst ds => some ds
  | .ro ds => some ds
  | .ptr n => match ms[n]? with
    | some (.lst ds) => some ds
    | _ => none
  | _ => none
section
variable {K : PySem.W.Frag} {ι : Ct} {H : Hp} {ms : MS}
theorem Rel.lst (R : Rel K ι H ms) {d : D} {ds : List D} {v : V} (e : lstOf ms d = some ds) (h : Rp K ι H d v) : ∃ p xs, v = .ref p ∧ Rps K ι H ds xs ∧ H p = some (.lst xs) := by
  cases d with
  | lst es => cases e; obtain ⟨p, xs, rfl, q, _, r⟩ := h; exact ⟨p, xs, rfl, r, q⟩
  | ptr n =>
    obtain ⟨p, rfl, hn⟩ := h
    unfold lstOf at e
    cases q : ms[n]? with
    | none => simp only [q] at e; cases e
    | some c =>
      cases c with
      | lst es =>
        simp only [q] at e
        cases e
        obtain ⟨xs, h1, h2⟩ := R.ok n p _ hn q
        exact ⟨p, xs, rfl, h2, h1⟩
      | _ => simp only [q] at e; cases e
  | _ => cases e
theorem Rel.rl (R : Rel K ι H ms) {d : D} {ds : List D} {v : V} (e : rlOf ms d = some ds) (h : Rp K ι H d v) : ∃ p xs, v = .ref p ∧ Rps K ι H ds xs ∧ SqL K H p xs := by
  cases d with
  | lst es => cases e; obtain ⟨p, xs, rfl, q, _, r⟩ := h; exact ⟨p, xs, rfl, r, SqL.of q⟩
  | ro es =>
    cases e
    obtain ⟨p, xs, rfl, q, r⟩ := h
    refine ⟨p, xs, rfl, r, ?_⟩
    rcases q with ⟨o, q⟩ | q
    · exact .inl (.inr ⟨o, q⟩)
    · exact .inr q
  | ptr n =>
    obtain ⟨p, xs, h1, h2, h3⟩ := R.lst (d := .ptr n) (ds := ds) e h
    exact ⟨p, xs, h1, h2, SqL.of h3⟩
  | _ => cases e
theorem Rel.seq (R : Rel K ι H ms) {d : D} {ds : List D} {v : V} (e : seqOf ms d = some ds) (h : Rp K ι H d v) : ∃ p xs, v = .ref p ∧ Rps K ι H ds xs ∧ (SqL K H p xs ∨ SqT K H p xs) := by
  cases d with
  | tup es => cases e; obtain ⟨p, xs, rfl, q, r⟩ := h; exact ⟨p, xs, rfl, r, .inr q⟩
  | lst es => obtain ⟨p, xs, h1, h2, h3⟩ := R.rl (d := .lst es) (ds := ds) e h; exact ⟨p, xs, h1, h2, .inl h3⟩
  | ro es => obtain ⟨p, xs, h1, h2, h3⟩ := R.rl (d := .ro es) (ds := ds) e h; exact ⟨p, xs, h1, h2, .inl h3⟩
  | ptr n => obtain ⟨p, xs, h1, h2, h3⟩ := R.rl (d := .ptr n) (ds := ds) e h; exact ⟨p, xs, h1, h2, .inl h3⟩
  | _ => cases e
end
abbrev LIM : Nat := 16777216
theorem lim_eq : LIM = sizeLine := by rw [sizeLine_eq]

/-- a new pure tuple, a new pure list, a new list that may change -/
@[simp] def mkTup (ds : List D) (ms : MS) : Res D := if ds.length ≤ LIM then .ok (.tup ds) ms else .bad
@[simp] def mkLst (ds : List D) (ms : MS) : Res D := if ds.length ≤ LIM then .ok (.lst ds) ms else .bad
@[simp] def mkMut (ds : List D) (ms : MS) : Res D := if ds.length ≤ LIM then .ok (.ptr ms.length) (ms ++ [.lst ds]) else .bad
section
variable {K : PySem.W.Frag} {ι : Ct} {H : Hp} {ms : MS} {E : EW}
theorem mkTup_ok {ds : List D} {xs : List V} {Q : VK} (R : Rel K ι H ms) (r : Rps K ι H ds xs) (o : Out K E (Rp K) ι H (mkTup ds ms) Q) : xs.length ≤ sizeLine ∧ ∀ p, H p = none → Q (.ref p) (upd H p (.tup xs)) := by
  unfold mkTup at o
  split at o
  · rename_i h
    refine ⟨by rw [r.length, ← lim_eq]; exact h, fun p hp => ?_⟩
    exact o _ ι _ (R.new hp) (Le.new R hp) ⟨p, xs, rfl, SqT.of upd_same, Rps.mono (Le.new R hp) _ _ r⟩
  · exact o.elim
theorem mkLst_ok {ds : List D} {xs : List V} {Q : VK} (R : Rel K ι H ms) (r : Rps K ι H ds xs) (o : Out K E (Rp K) ι H (mkLst ds ms) Q) : xs.length ≤ sizeLine ∧ ∀ p, H p = none → Q (.ref p) (upd H p (.lst xs)) := by
  unfold mkLst at o
  split at o
  · rename_i h
    refine ⟨by rw [r.length, ← lim_eq]; exact h, fun p hp => ?_⟩
    exact o _ ι _ (R.new hp) (Le.new R hp) ⟨p, xs, rfl, upd_same, R.fresh hp, Rps.mono (Le.new R hp) _ _ r⟩
  · exact o.elim
theorem mkMut_ok {ds : List D} {xs : List V} {Q : VK} (R : Rel K ι H ms) (r : Rps K ι H ds xs) (o : Out K E (Rp K) ι H (mkMut ds ms) Q) : xs.length ≤ sizeLine ∧ ∀ p, H p = none → Q (.ref p) (upd H p (.lst xs)) := by
  unfold mkMut at o
  split at o
  · rename_i h
    refine ⟨by rw [r.length, ← lim_eq]; exact h, fun p hp => ?_⟩
    refine o _ (ι.push p) _ (R.newM hp ⟨xs, upd_same, Rps.mono (Le.newM R hp) _ _ r⟩) (Le.newM R hp) ⟨p, rfl, ?_⟩
    show (ι.a ++ [p])[ms.length]? = some p
    rw [← R.len, List.getElem?_append_right (Nat.le_refl _)]
    simp
  · exact o.elim
end

section
variable {X : Cx} {E : EW} {a b : Expr} {es : List Expr} {pos : Pos} {f g : Env → MS → Res D} {fs : Env → MS → Res (List D)}
theorem a_nil : DA X E [] nilA := PA.conv pa_nil fun σ H Q ⟨ι, env, ms, r0, ev, o⟩ => o [] ι H r0 .refl rfl
theorem a_cons (ha : DE X E a f) (hs : DA X E es fs) (he : starEach (a :: es) X.env = (false, eval a X.env) :: starEach es X.env := by rfl) : DA X E (a :: es) (consA f fs) :=
  PA.conv (pa_cons ha hs he) fun σ H Q ⟨ι, env, ms, r0, ev, o⟩ => by
    refine tR_seq r0 ev o fun ι1 H1 ms1 d x B1 o1 => ?_
    refine tR_seq B1.rel B1.env o1 fun ι2 H2 ms2 r xs B2 o2 => ?_
    exact o2 _ ι2 H2 B2.rel .refl ⟨x, xs, rfl, Rp.mono B2.le _ _ B1.r, B2.r⟩
theorem d_tup {x1} (h : DA X E es fs) : DE X E (.Tuple es x1 pos) (appE fs mkTup) :=
  PE.conv (pe_tup h) fun σ H Q ⟨ι, env, ms, r0, ev, o⟩ => tR_seq r0 ev o fun ι1 H1 ms1 d x B1 o1 => mkTup_ok B1.rel B1.r o1
theorem d_lst (h : DA X E es fs) : DE X E (.List es pos) (appE fs mkLst) :=
  PE.conv (pe_lst h) fun σ H Q ⟨ι, env, ms, r0, ev, o⟩ => tR_seq r0 ev o fun ι1 H1 ms1 d x B1 o1 => mkLst_ok B1.rel B1.r o1
theorem d_mut (h : DA X E es fs) : DE X E (.List es pos) (appE fs mkMut) :=
  PE.conv (pe_lst h) fun σ H Q ⟨ι, env, ms, r0, ev, o⟩ => tR_seq r0 ev o fun ι1 H1 ms1 d x B1 o1 => mkMut_ok B1.rel B1.r o1
end

/-! ### operators -/
/-- great bounds, by name -/
def BIG6 : Nat := 2 ^ 600
def BIG8 : Nat := 2 ^ 8000
def BIG1 : Nat := 2 ^ 1000
@[simp] def addD : D → D → MS → Res D
  | .int i, .int j, ms => .ok (.int (i + j)) ms
  | .str x, .str y, ms => if x.length + y.length ≤ LIM then .ok (.str (x ++ y)) ms else .bad
  | .tup xs, .tup ys, ms => mkTup (xs ++ ys) ms
  | a, b, ms => match lstOf ms a, lstOf ms b with
    | some xs, some ys => mkLst (xs ++ ys) ms
    | _, _ => .bad
@[simp] def addM : D → D → MS → Res D
  | a, b, ms => match lstOf ms a, lstOf ms b with
    | some xs, some ys => mkMut (xs ++ ys) ms
    | _, _ => .bad
def intD (c : Int → Int → Bool) (g : Int → Int → D) : D → D → MS → Res D
  | .int i, .int j, ms => if c i j = true then .ok (g i j) ms else .bad
  | _, _, _ => .bad
def yes2 (_ _ : Int) : Bool := true
@[simp] def subD : D → D → MS → Res D
  | .int i, .int j, ms => .ok (.int (i - j)) ms
  | _, _, _ => .bad
@[simp] def mulD : D → D → MS → Res D
  | .int i, .int j, ms => if i.natAbs < 2 ^ 60 ∨ j.natAbs < 2 ^ 60 ∨ (i.natAbs < BIG1 ∧ j.natAbs < BIG1) then .ok (.int (i * j)) ms else .bad
  | _, _, _ => .bad
@[simp] def modD : D → D → MS → Res D
  | .int i, .int j, ms => if 0 < j then .ok (.int (i % j)) ms else .bad
  | _, _, _ => .bad
@[simp] def divD : D → D → MS → Res D
  | .int i, .int j, ms => if 0 < j ∧ (j.natAbs < 2 ^ 60 ∨ j.natAbs < BIG8) then .ok (.int (i / j)) ms else .bad
  | _, _, _ => .bad
@[simp] def powD : D → D → MS → Res D
  | .int i, .int j, ms => if 0 ≤ j ∧ j ≤ 1000 ∧ (i.natAbs < 2 ^ 60 ∨ i.natAbs < BIG6) then .ok (.int (i ^ j.toNat)) ms else .bad
  | _, _, _ => .bad
@[simp] def ltD : D → D → MS → Res D
  | .int i, .int j, ms => .ok (.bl (decide (i < j))) ms
  | _, _, _ => .bad
@[simp] def leD : D → D → MS → Res D
  | .int i, .int j, ms => .ok (.bl (decide (i ≤ j))) ms
  | _, _, _ => .bad
@[simp] def gtD : D → D → MS → Res D
  | .int i, .int j, ms => .ok (.bl (decide (j < i))) ms
  | _, _, _ => .bad
@[simp] def geD : D → D → MS → Res D
  | .int i, .int j, ms => .ok (.bl (decide (j ≤ i))) ms
  | _, _, _ => .bad
section
variable {X : Cx} {E : EW} {K : PySem.W.Frag}
theorem p_add : P2 K E (fun x y H Q => (∃ i j, x = .int i ∧ y = .int j ∧ Q (.int (i + j)) H) ∨ (∃ i j, x = .str i ∧ y = .str j ∧ i.length + j.length ≤ sizeLine ∧ Q (.str (i ++ j)) H) ∨ rCatA K x y H Q ∨ rCat x y H Q) addD := by
  intro ι H ms a b x y Q R ra rb o
  have lists : ∀ xs ys, lstOf ms a = some xs → lstOf ms b = some ys → Out K E (Rp K) ι H (mkLst (xs ++ ys) ms) Q → rCat x y H Q := fun xs ys ea eb o => by
    obtain ⟨p, us, rfl, r1, h1⟩ := R.lst ea ra
    obtain ⟨q, ws, rfl, r2, h2⟩ := R.lst eb rb
    obtain ⟨z, k⟩ := mkLst_ok R (r1.append r2) o
    exact ⟨p, q, us, ws, rfl, rfl, h1, h2, by rw [← List.length_append]; exact z, k⟩
  have gen : (match lstOf ms a, lstOf ms b with | some xs, some ys => Out K E (Rp K) ι H (mkLst (xs ++ ys) ms) Q | _, _ => False) → rCat x y H Q := fun o => by
    cases ea : lstOf ms a with
    | none => simp only [ea] at o
    | some xs =>
      cases eb : lstOf ms b with
      | none => simp only [ea, eb] at o
      | some ys =>
        simp only [ea, eb] at o
        exact lists xs ys ea eb o
  have gen' : Out K E (Rp K) ι H (match lstOf ms a, lstOf ms b with | some xs, some ys => mkLst (xs ++ ys) ms | _, _ => .bad) Q → rCat x y H Q := fun o => gen (by
    split at o
    · exact o
    · exact o.elim)
  cases a with
  | int i =>
    cases b with
    | int j => exact .inl ⟨i, j, ra, rb, o _ ι H R .refl rfl⟩
    | _ => exact .inr (.inr (.inr (gen' o)))
  | str i =>
    cases b with
    | str j =>
      have o' : Out K E (Rp K) ι H (if i.length + j.length ≤ LIM then .ok (.str (i ++ j)) ms else .bad) Q := o
      by_cases h : i.length + j.length ≤ LIM
      · rw [if_pos h] at o'
        exact .inr (.inl ⟨i, j, ra, rb, by rw [← lim_eq]; exact h, o' _ ι H R .refl rfl⟩)
      · rw [if_neg h] at o'
        exact o'.elim
    | _ => exact .inr (.inr (.inr (gen' o)))
  | tup ds =>
    cases b with
    | tup es =>
      obtain ⟨p, us, rfl, h1, r1⟩ := ra
      obtain ⟨q, ws, rfl, h2, r2⟩ := rb
      have o' : Out K E (Rp K) ι H (mkTup (ds ++ es) ms) Q := o
      obtain ⟨z, k⟩ := mkTup_ok R (r1.append r2) o'
      have hz : (ds ++ es).length ≤ LIM := by rw [← (r1.append r2).length]; rw [lim_eq]; exact z
      have o2 : ∀ b ι' H', Rel K ι' H' ms → Le ι H ι' H' → Rp K ι' H' (.tup (ds ++ es)) b → Q b H' := by
        unfold mkTup at o'
        rw [if_pos hz] at o'
        exact o'
      refine .inr (.inr (.inl ⟨p, q, us, ws, rfl, rfl, h1, h2, by rw [← List.length_append]; exact z, fun e => ?_, fun _ e => ?_, fun _ _ => k⟩))
      · subst e
        have : ds = [] := List.length_eq_zero_iff.mp (by rw [← r1.length]; rfl)
        subst this
        exact o2 _ ι H R .refl ⟨q, ws, rfl, h2, r2⟩
      · subst e
        have : es = [] := List.length_eq_zero_iff.mp (by rw [← r2.length]; rfl)
        subst this
        rw [List.append_nil] at o2
        exact o2 _ ι H R .refl ⟨p, us, rfl, h1, r1⟩
    | _ => exact .inr (.inr (.inr (gen' o)))
  | _ => exact .inr (.inr (.inr (gen' o)))
theorem p_addM : P2 K E rCat addM := by
  intro ι H ms a b x y Q R ra rb o
  unfold addM at o
  cases ea : lstOf ms a with
  | none => simp only [ea] at o; exact o.elim
  | some xs =>
    cases eb : lstOf ms b with
    | none => simp only [ea, eb] at o; exact o.elim
    | some ys =>
      simp only [ea, eb] at o
      obtain ⟨p, us, rfl, r1, h1⟩ := R.lst ea ra
      obtain ⟨q, ws, rfl, r2, h2⟩ := R.lst eb rb
      obtain ⟨z, k⟩ := mkMut_ok R (r1.append r2) o
      exact ⟨p, q, us, ws, rfl, rfl, h1, h2, by rw [← List.length_append]; exact z, k⟩
variable {a b : Expr} {f g : Env → MS → Res D} {pos : Pos}
theorem d_add (ha : DE X E a f) (hb : DE X E b g) : DE X E (.BinOp a .Add b pos) (binE f g addD) := d_op (op_add.or (op_add_str.or (op_catA.or op_cat))) p_add ha hb
theorem d_addM (ha : DE X E a f) (hb : DE X E b g) : DE X E (.BinOp a .Add b pos) (binE f g addM) := d_op op_cat p_addM ha hb
/-- two ints -/
theorem p_int {C : Int → Int → Prop} {G : Int → Int → V} {p : D → D → MS → Res D} (hp : ∀ (i j : Int) (ms : MS), (C i j ∧ ∃ d, p (.int i) (.int j) ms = .ok d ms ∧ ∀ ι H, Rp K ι H d (G i j)) ∨ p (.int i) (.int j) ms = .bad)
    (hn : ∀ a b ms, (∀ i, a ≠ .int i) ∨ (∀ i, b ≠ .int i) → p a b ms = .bad) : P2 K E (rI C G) p := by
  intro ι H ms a b x y Q R ra rb o
  by_cases ha : ∃ i, a = .int i
  · obtain ⟨i, rfl⟩ := ha
    by_cases hb : ∃ i, b = .int i
    · obtain ⟨j, rfl⟩ := hb
      rcases hp i j ms with ⟨c, d, e, r⟩ | e
      · rw [e] at o
        exact ⟨i, j, ra, rb, c, o _ ι H R .refl (r ι H)⟩
      · rw [e] at o; exact o.elim
    · rw [hn _ _ _ (.inr fun i e => hb ⟨i, e⟩)] at o; exact o.elim
  · rw [hn _ _ _ (.inl fun i e => ha ⟨i, e⟩)] at o; exact o.elim
theorem p_int0 {G : Int → Int → V} {p : D → D → MS → Res D} (hp : ∀ (i j : Int) (ms : MS), ∃ d, p (.int i) (.int j) ms = .ok d ms ∧ ∀ ι H, Rp K ι H d (G i j))
    (hn : ∀ a b ms, (∀ i, a ≠ .int i) ∨ (∀ i, b ≠ .int i) → p a b ms = .bad) : P2 K E (rI0 G) p := by
  intro ι H ms a b x y Q R ra rb o
  by_cases ha : ∃ i, a = .int i
  · obtain ⟨i, rfl⟩ := ha
    by_cases hb : ∃ i, b = .int i
    · obtain ⟨j, rfl⟩ := hb
      obtain ⟨d, e, r⟩ := hp i j ms
      rw [e] at o
      exact ⟨i, j, ra, rb, o _ ι H R .refl (r ι H)⟩
    · rw [hn _ _ _ (.inr fun i e => hb ⟨i, e⟩)] at o; exact o.elim
  · rw [hn _ _ _ (.inl fun i e => ha ⟨i, e⟩)] at o; exact o.elim
end
end DL

set_option maxHeartbeats 1000000
namespace DL
open PySem PySem.Spec L2
open PyProof.Rows hiding St

section
variable {X : Cx} {E : EW} {a b : Expr} {f g : Env → MS → Res D} {pos : Pos}
theorem nint1 {p : D → D → MS → Res D} (h : ∀ a b ms, (∀ i j, a = .int i → b = .int j → False) → p a b ms = .bad) : ∀ a b ms, (∀ i, a ≠ .int i) ∨ (∀ i, b ≠ .int i) → p a b ms = .bad := fun a b ms q => h a b ms fun i j e1 e2 => q.elim (fun z => z i e1) fun z => z j e2
theorem d_sub (ha : DE X E a f) (hb : DE X E b g) : DE X E (.BinOp a .Sub b pos) (binE f g subD) :=
  d_op op_sub (p_int0 (fun i j ms => ⟨_, rfl, fun _ _ => rfl⟩) (nint1 fun a b ms h => by cases a <;> cases b <;> first | rfl | exact (h _ _ rfl rfl).elim)) ha hb
def CMulA (i j : Int) : Prop := i.natAbs < 2 ^ 60 ∨ j.natAbs < 2 ^ 60 ∨ (i.natAbs < BIG1 ∧ j.natAbs < BIG1)
theorem op_mulA : OpR X (binaryOp .Mult) (rI CMulA fun i j => .int (i * j)) := opI fun i j _ _ _ _ _ hc q => by
  rcases hc with h | h | h
  · exact mul_int q (CMul.ok (.inl (by omega)))
  · exact mul_int q (CMul.ok (.inr (by omega)))
  · exact mul_int q (CMulW.ok (wide_mul (a := 1000) (b := 1000) h.1 h.2 (by decide) (by decide) (by decide)))
theorem d_mul (ha : DE X E a f) (hb : DE X E b g) : DE X E (.BinOp a .Mult b pos) (binE f g mulD) :=
  d_op op_mulA (p_int (fun i j ms => by
    unfold mulD
    by_cases h : i.natAbs < 2 ^ 60 ∨ j.natAbs < 2 ^ 60 ∨ (i.natAbs < BIG1 ∧ j.natAbs < BIG1)
    · exact .inl ⟨h, D.int (i * j), by simp only [if_pos h], fun _ _ => rfl⟩
    · exact .inr (by simp only [if_neg h])) (nint1 fun a b ms h => by cases a <;> cases b <;> first | rfl | exact (h _ _ rfl rfl).elim)) ha hb
theorem d_mod (ha : DE X E a f) (hb : DE X E b g) : DE X E (.BinOp a .Mod b pos) (binE f g modD) :=
  d_op op_mod (p_int (fun i j ms => by
    unfold modD
    by_cases h : 0 < j
    · exact .inl ⟨h, D.int (i % j), by simp only [if_pos h], fun _ _ => rfl⟩
    · exact .inr (by simp only [if_neg h])) (nint1 fun a b ms h => by cases a <;> cases b <;> first | rfl | exact (h _ _ rfl rfl).elim)) ha hb
theorem d_div (ha : DE X E a f) (hb : DE X E b g) : DE X E (.BinOp a .FloorDiv b pos) (binE f g divD) :=
  d_op op_fdivW (p_int (fun i j ms => by
    unfold divD
    by_cases h : 0 < j ∧ (j.natAbs < 2 ^ 60 ∨ j.natAbs < BIG8)
    · exact .inl ⟨h.2.elim (fun z => wide_div (b := 60) h.1 z (by decide) (by decide)) (fun z => wide_div (b := 8000) h.1 z (by decide) (by decide)), D.int (i / j), by simp only [if_pos h], fun _ _ => rfl⟩
    · exact .inr (by simp only [if_neg h])) (nint1 fun a b ms h => by cases a <;> cases b <;> first | rfl | exact (h _ _ rfl rfl).elim)) ha hb
def CPowW (i j : Int) : Prop := 0 ≤ j ∧ j ≤ 1000 ∧ (i.natAbs < 2 ^ 60 ∨ i.natAbs < BIG6)
theorem op_powW : OpR X (binaryOp .Pow) (rI CPowW fun i j => .int (i ^ j.toNat)) := opI fun i j _ _ _ _ _ hc q => by
  refine pow_int hc.1 ?_ q
  have hb : Builtin.Int.intBits i ≤ 600 := hc.2.2.elim (fun z => Nat.le_trans (intBits_le z) (by decide)) fun z => intBits_le (k := 600) z
  have h1 : (Builtin.Int.intBits i : Int) * j ≤ 600 * j := Int.mul_le_mul_of_nonneg_right (by omega) hc.1
  have := hc.2.1
  omega
theorem d_pow (ha : DE X E a f) (hb : DE X E b g) : DE X E (.BinOp a .Pow b pos) (binE f g powD) :=
  d_op op_powW (p_int (fun i j ms => by
    unfold powD
    by_cases h : 0 ≤ j ∧ j ≤ 1000 ∧ (i.natAbs < 2 ^ 60 ∨ i.natAbs < BIG6)
    · exact .inl ⟨h, D.int (i ^ j.toNat), by simp only [if_pos h], fun _ _ => rfl⟩
    · exact .inr (by simp only [if_neg h])) (nint1 fun a b ms h => by cases a <;> cases b <;> first | rfl | exact (h _ _ rfl rfl).elim)) ha hb
theorem q_lt : P2 X.K E (rI0 fun i j => .bl (decide (i < j))) ltD := p_int0 (fun i j ms => ⟨_, rfl, fun _ _ => rfl⟩) (nint1 fun a b ms h => by cases a <;> cases b <;> first | rfl | exact (h _ _ rfl rfl).elim)
theorem q_le : P2 X.K E (rI0 fun i j => .bl (decide (i ≤ j))) leD := p_int0 (fun i j ms => ⟨_, rfl, fun _ _ => rfl⟩) (nint1 fun a b ms h => by cases a <;> cases b <;> first | rfl | exact (h _ _ rfl rfl).elim)
theorem q_gt : P2 X.K E (rI0 fun i j => .bl (decide (j < i))) gtD := p_int0 (fun i j ms => ⟨_, rfl, fun _ _ => rfl⟩) (nint1 fun a b ms h => by cases a <;> cases b <;> first | rfl | exact (h _ _ rfl rfl).elim)
theorem q_ge : P2 X.K E (rI0 fun i j => .bl (decide (j ≤ i))) geD := p_int0 (fun i j ms => ⟨_, rfl, fun _ _ => rfl⟩) (nint1 fun a b ms h => by cases a <;> cases b <;> first | rfl | exact (h _ _ rfl rfl).elim)
end

/-! ### == of data -/
mutual
def pyD : D → Option PyData
  | .non => some .none
  | .bl b => some (.bool b)
  | .int i => some (.int i)
  | .str x => some (.str x)
  | .tup ds => (pyDs ds).map .tuple
  | .lst ds => (pyDs ds).map .list
  | .ro ds => (pyDs ds).map .list
  | .ptr _ => none
def pyDs : List D → Option (List PyData)
  | [] => some []
  | d :: ds => match pyD d, pyDs ds with
    | some p, some ps => some (p :: ps)
    | _, _ => none
end
def toPy (ms : MS) (d : D) : Option PyData := match d with
  | .ptr n => match ms[n]? with
    | some (.lst ds) => (pyDs ds).map .list
    | _ => none
  | d => pyD d
def eqG (a b : D) (ms : MS) : Res D := match toPy ms a, toPy ms b with
  | some p, some q => if (SeqAt.shaped p && SeqAt.shaped q) = true then .ok (.bl (PyData.eqv p q)) ms else .bad
  | _, _ => .bad
def neG (a b : D) (ms : MS) : Res D := match toPy ms a, toPy ms b with
  | some p, some q => if (SeqAt.shaped p && SeqAt.shaped q) = true then .ok (.bl (!PyData.eqv p q)) ms else .bad
  | _, _ => .bad
section
variable {K : PySem.W.Frag} {ι : Ct} {H : Hp} {ms : MS} {E : EW}
mutual
theorem dp_of : ∀ (d : D) (v : V) (q : PyData), pyD d = some q → Rp K ι H d v → Dp K H v q
  | .non, _, _, e, h => by cases e; cases h; exact .non
  | .bl b, _, _, e, h => by cases e; cases h; exact .bl b
  | .int i, _, _, e, h => by cases e; cases h; exact .int i
  | .str x, _, _, e, h => by cases e; cases h; exact .str x
  | .tup ds, _, _, e, h => by
    obtain ⟨p, xs, rfl, hq, r⟩ := h
    unfold pyD at e
    cases z : pyDs ds with
    | none => rw [z] at e; cases e
    | some ps => rw [z] at e; cases e; exact .tup hq (dps_of ds xs ps z r)
  | .lst ds, _, _, e, h => by
    obtain ⟨p, xs, rfl, hq, _, r⟩ := h
    unfold pyD at e
    cases z : pyDs ds with
    | none => rw [z] at e; cases e
    | some ps => rw [z] at e; cases e; exact .lst (SqL.of hq) (dps_of ds xs ps z r)
  | .ro ds, _, _, e, h => by
    obtain ⟨p, xs, rfl, hq, r⟩ := h
    unfold pyD at e
    cases z : pyDs ds with
    | none => rw [z] at e; cases e
    | some ps =>
      rw [z] at e
      cases e
      refine .lst ?_ (dps_of ds xs ps z r)
      rcases hq with ⟨o, q⟩ | q
      · exact .inl (.inr ⟨o, q⟩)
      · exact .inr q
  | .ptr _, _, _, e, _ => by cases e
theorem dps_of : ∀ (ds : List D) (vs : List V) (qs : List PyData), pyDs ds = some qs → Rps K ι H ds vs → DpAll K H vs qs
  | [], _, _, e, h => by cases e; cases h; exact .nil
  | d :: ds, _, _, e, h => by
    obtain ⟨v, r, rfl, h1, h2⟩ := h
    unfold pyDs at e
    cases z : pyD d with
    | none => rw [z] at e; cases e
    | some p =>
      cases z2 : pyDs ds with
      | none => rw [z, z2] at e; cases e
      | some ps => rw [z, z2] at e; cases e; exact .cons (dp_of d v p z h1) (dps_of ds r ps z2 h2)
end
theorem Rel.dp (R : Rel K ι H ms) {d : D} {v : V} {q : PyData} (e : toPy ms d = some q) (h : Rp K ι H d v) : Dp K H v q := by
  cases d with
  | ptr n =>
    obtain ⟨p, rfl, hn⟩ := h
    unfold toPy at e
    cases q' : ms[n]? with
    | none => simp only [q'] at e; cases e
    | some c =>
      cases c with
      | lst es =>
        simp only [q'] at e
        obtain ⟨xs, h1, h2⟩ := R.ok n p _ hn q'
        cases z : pyDs es with
        | none => rw [z] at e; cases e
        | some ps => rw [z] at e; cases e; exact .lst (SqL.of h1) (dps_of es xs ps z h2)
      | _ => simp only [q'] at e; cases e
  | _ => exact dp_of _ v q e h
theorem q_eqG : P2 K E (rEqD K) eqG := by
  intro ι H ms a b x y Q R ra rb o
  unfold eqG at o
  cases ea : toPy ms a with
  | none => simp only [ea] at o; exact o.elim
  | some p =>
    cases eb : toPy ms b with
    | none => simp only [ea, eb] at o; exact o.elim
    | some q =>
      simp only [ea, eb] at o
      split at o
      · rename_i hs
        rw [Bool.and_eq_true] at hs
        exact ⟨p, q, R.dp ea ra, R.dp eb rb, hs.1, hs.2, o _ ι H R .refl rfl⟩
      · exact o.elim
theorem q_neG : P2 K E (rNeD K) neG := by
  intro ι H ms a b x y Q R ra rb o
  unfold neG at o
  cases ea : toPy ms a with
  | none => simp only [ea] at o; exact o.elim
  | some p =>
    cases eb : toPy ms b with
    | none => simp only [ea, eb] at o; exact o.elim
    | some q =>
      simp only [ea, eb] at o
      split at o
      · rename_i hs
        rw [Bool.and_eq_true] at hs
        exact ⟨p, q, R.dp ea ra, R.dp eb rb, hs.1, hs.2, o _ ι H R .refl rfl⟩
      · exact o.elim
end

/-- == of two flat things of a kind, or of data at any depth -/
@[simp] def eqD : D → D → MS → Res D
  | .int i, .int j, ms => .ok (.bl (i == j)) ms
  | .bl i, .bl j, ms => .ok (.bl (i == j)) ms
  | .str i, .str j, ms => .ok (.bl (i == j)) ms
  | a, b, ms => eqG a b ms
@[simp] def neD : D → D → MS → Res D
  | .int i, .int j, ms => .ok (.bl (!(i == j))) ms
  | .bl i, .bl j, ms => .ok (.bl (!(i == j))) ms
  | .str i, .str j, ms => .ok (.bl (!(i == j))) ms
  | a, b, ms => neG a b ms
section
variable {K : PySem.W.Frag} {E : EW} {X : Cx}
theorem q_eq : P2 K E (fun x y H Q => rEq x y H Q ∨ rEqD K x y H Q) eqD := by
  intro ι H ms a b x y Q R ra rb o
  have g : Out K E (Rp K) ι H (eqG a b ms) Q → rEq x y H Q ∨ rEqD K x y H Q := fun o => .inr (q_eqG ι H ms a b x y Q R ra rb o)
  cases a with
  | int i =>
    cases b with
    | int j => cases ra; cases rb; exact .inl ⟨rfl, by rw [dec_int]; exact o _ ι H R .refl rfl⟩
    | _ => exact g o
  | bl i =>
    cases b with
    | bl j => cases ra; cases rb; exact .inl ⟨rfl, by rw [dec_bl]; exact o _ ι H R .refl rfl⟩
    | _ => exact g o
  | str i =>
    cases b with
    | str j => cases ra; cases rb; exact .inl ⟨rfl, by rw [dec_str]; exact o _ ι H R .refl rfl⟩
    | _ => exact g o
  | _ => exact g o
theorem q_ne : P2 K E (fun x y H Q => rNe x y H Q ∨ rNeD K x y H Q) neD := by
  intro ι H ms a b x y Q R ra rb o
  have g : Out K E (Rp K) ι H (neG a b ms) Q → rNe x y H Q ∨ rNeD K x y H Q := fun o => .inr (q_neG ι H ms a b x y Q R ra rb o)
  cases a with
  | int i =>
    cases b with
    | int j => cases ra; cases rb; exact .inl ⟨rfl, by rw [dec_int]; exact o _ ι H R .refl rfl⟩
    | _ => exact g o
  | bl i =>
    cases b with
    | bl j => cases ra; cases rb; exact .inl ⟨rfl, by rw [dec_bl]; exact o _ ι H R .refl rfl⟩
    | _ => exact g o
  | str i =>
    cases b with
    | str j => cases ra; cases rb; exact .inl ⟨rfl, by rw [dec_str]; exact o _ ι H R .refl rfl⟩
    | _ => exact g o
  | _ => exact g o
theorem op_eqA (hu : X.A.units + 64 < cLine) : OpR X (compareOp .Eq) (fun x y H Q => rEq x y H Q ∨ rEqD X.K x y H Q) := op_eq.or (op_eqD hu)
theorem op_neA (hu : X.A.units + 64 < cLine) : OpR X (compareOp .NotEq) (fun x y H Q => rNe x y H Q ∨ rNeD X.K x y H Q) := op_ne.or (op_neD hu)
end

/-! ### in, not in -/
def flatD : D → Bool
  | .non => true
  | .bl _ => true
  | .int _ => true
  | .str _ => true
  | _ => false
def flV : D → V
  | .non => .non
  | .bl b => .bl b
  | .int i => .int i
  | .str x => .str x
  | _ => .non
def hasD (a : D) (ds : List D) : Bool := ds.any fun d => eqV (flV d) (flV a)
@[simp] def inD (neg : Bool) (a b : D) (ms : MS) : Res D := match b with
  | .str z => match a with
    | .str x => if x.cps.size = 1 then .ok (.bl (if neg then !decide (x.cps.getD 0 0 ∈ z.cps.toList) else decide (x.cps.getD 0 0 ∈ z.cps.toList))) ms else .bad
    | _ => .bad
  | b => match seqOf ms b with
    | some ds => if (flatD a && ds.all flatD) = true then .ok (.bl (if neg then !hasD a ds else hasD a ds)) ms else .bad
    | none => .bad
section
variable {K : PySem.W.Frag} {ι : Ct} {H : Hp} {ms : MS} {E : EW}
theorem flV_of {d : D} {v : V} (f : flatD d = true) (h : Rp K ι H d v) : v = flV d ∧ flatV v = true := by
  cases d with
  | non => cases h; exact ⟨rfl, rfl⟩
  | bl b => cases h; exact ⟨rfl, rfl⟩
  | int i => cases h; exact ⟨rfl, rfl⟩
  | str x => cases h; exact ⟨rfl, rfl⟩
  | _ => exact absurd f Bool.false_ne_true
theorem flVs_of : ∀ {ds : List D} {vs : List V}, ds.all flatD = true → Rps K ι H ds vs → vs = ds.map flV ∧ vs.all flatV = true
  | [], _, _, h => by cases h; exact ⟨rfl, rfl⟩
  | d :: ds, _, f, h => by
    obtain ⟨v, r, rfl, h1, h2⟩ := h
    rw [List.all_cons, Bool.and_eq_true] at f
    obtain ⟨e1, e2⟩ := flV_of f.1 h1
    obtain ⟨e3, e4⟩ := flVs_of f.2 h2
    refine ⟨by rw [List.map_cons, ← e1, ← e3], ?_⟩
    rw [List.all_cons, e2, e4]
    rfl
theorem hasD_eq (a : D) (ds : List D) : inV (flV a) (ds.map flV) = hasD a ds := by
  unfold inV hasD
  rw [List.any_map]
  rfl
theorem one_sign {x : Str} (h : x.cps.size = 1) : x = ⟨#[x.cps.getD 0 0]⟩ := by
  obtain ⟨⟨l⟩⟩ := x
  match l, h with
  | [c], _ => rfl
theorem q_in (neg : Bool) : P2 K E (fun x y H Q => (∃ (c : Nat) (z : Str), x = .str ⟨#[c]⟩ ∧ y = .str z ∧ Q (.bl (if neg then !decide (c ∈ z.cps.toList) else decide (c ∈ z.cps.toList))) H) ∨ rIn K neg x y H Q) (inD neg) := by
  intro ι H ms a b x y Q R ra rb o
  by_cases hb : ∃ z, b = .str z
  · obtain ⟨z, rfl⟩ := hb
    cases a with
    | str w =>
      have o' : Out K E (Rp K) ι H (if w.cps.size = 1 then .ok (.bl (if neg then !decide (w.cps.getD 0 0 ∈ z.cps.toList) else decide (w.cps.getD 0 0 ∈ z.cps.toList))) ms else .bad) Q := o
      by_cases h : w.cps.size = 1
      · rw [if_pos h] at o'
        exact .inl ⟨w.cps.getD 0 0, z, by rw [← one_sign h]; exact ra, rb, o' _ ι H R .refl rfl⟩
      · rw [if_neg h] at o'; exact o'.elim
    | _ => exact o.elim
  · have o' : Out K E (Rp K) ι H (match seqOf ms b with | some ds => if (flatD a && ds.all flatD) = true then .ok (.bl (if neg then !hasD a ds else hasD a ds)) ms else .bad | none => .bad) Q := by
      cases b with
      | str z => exact (hb ⟨z, rfl⟩).elim
      | _ => exact o
    cases e : seqOf ms b with
    | none => rw [e] at o'; exact o'.elim
    | some ds =>
      simp only [e] at o'
      split at o'
      · rename_i hf
        rw [Bool.and_eq_true] at hf
        obtain ⟨p, xs, rfl, r, hq⟩ := R.seq e rb
        obtain ⟨e1, e2⟩ := flV_of hf.1 ra
        obtain ⟨e3, e4⟩ := flVs_of hf.2 r
        refine .inr ⟨p, xs, rfl, hq, e2, e4, ?_⟩
        rw [e1, e3, hasD_eq]
        exact o' _ ι H R .refl rfl
      · exact o'.elim
variable {X : Cx} {a b : Expr} {f g : Env → MS → Res D} {pos : Pos}
theorem op_inD : OpR X (compareOp .In) (fun x y H Q => (∃ (c : Nat) (z : Str), x = .str ⟨#[c]⟩ ∧ y = .str z ∧ Q (.bl (if false then !decide (c ∈ z.cps.toList) else decide (c ∈ z.cps.toList))) H) ∨ rIn X.K false x y H Q) := op_in_sign.or op_in_seq
theorem op_ninD : OpR X (compareOp .NotIn) (fun x y H Q => (∃ (c : Nat) (z : Str), x = .str ⟨#[c]⟩ ∧ y = .str z ∧ Q (.bl (if true then !decide (c ∈ z.cps.toList) else decide (c ∈ z.cps.toList))) H) ∨ rIn X.K true x y H Q) := op_notIn_sign.or op_notIn_seq
end

/-! ### items and slices -/
@[simp] def optR (o : Option D) (ms : MS) : Res D := match o with
  | some d => .ok d ms
  | none => .bad
@[simp] def idxD (a b : D) (ms : MS) : Res D := match b with
  | .int i => match a with
    | .str z => if z.length ≤ LIM then match atI z.cps.toList i with
      | some c => .ok (.str ⟨#[c]⟩) ms
      | none => .bad else .bad
    | a => optR ((seqOf ms a).bind fun ds => atI ds i) ms
  | _ => .bad
def cutD (ds : List D) (lo hi : Option Int) : List D := (ds.drop (HT.sIx ds.length 0 lo)).take (HT.sIx ds.length ds.length hi - HT.sIx ds.length 0 lo)
@[simp] def slD (mk : List D → MS → Res D) (a : D) (lo hi : Option Int) (ms : MS) : Res D := match a with
  | .str z => if z.length ≤ LIM then .ok (.str (cutS z lo hi)) ms else .bad
  | .tup ds => if HT.sIx ds.length 0 lo = 0 ∧ HT.sIx ds.length ds.length hi = ds.length then .ok (.tup ds) ms else .ok (.tup (cutD ds lo hi)) ms
  | a => match rlOf ms a with
    | some ds => mk (cutD ds lo hi) ms
    | none => .bad
@[simp] def nonO (_ : Env) (ms : MS) : Res (Option Int) := .ok none ms
@[simp] def someO (f : Env → MS → Res D) (env : Env) (ms : MS) : Res (Option Int) := (f env ms).bind fun d ms1 => match d with
  | .int i => .ok (some i) ms1
  | _ => .bad
@[simp] def sliceE (mk : List D → MS → Res D) (f : Env → MS → Res D) (lo hi : Env → MS → Res (Option Int)) (env : Env) (ms : MS) : Res D := (f env ms).bind fun a ms1 => (lo env ms1).bind fun l ms2 => (hi env ms2).bind fun h ms3 => slD mk a l h ms3
section
variable {K : PySem.W.Frag} {ι : Ct} {H : Hp} {ms : MS} {E : EW}
theorem atI_rel {ds : List D} {xs : List V} {i : Int} {d : D} (r : Rps K ι H ds xs) (e : atI ds i = some d) : ∃ v, atI xs i = some v ∧ Rp K ι H d v := by
  unfold atI at e ⊢
  rw [r.length]
  cases q : ixN ds.length i with
  | none => rw [q] at e; cases e
  | some j =>
    rw [q] at e
    obtain ⟨v, e1, e2⟩ := r.get e
    exact ⟨v, e1, e2⟩
theorem q_idx : P2 K E (rIx K) idxD := by
  intro ι H ms a b x y Q R ra rb o
  cases b with
  | int i =>
    obtain rfl : y = .int i := rb
    by_cases ha : ∃ z, a = .str z
    · obtain ⟨z, rfl⟩ := ha
      have o' : Out K E (Rp K) ι H (if z.length ≤ LIM then match atI z.cps.toList i with | some c => .ok (.str ⟨#[c]⟩) ms | none => .bad else .bad) Q := o
      by_cases h : z.length ≤ LIM
      · rw [if_pos h] at o'
        cases e : atI z.cps.toList i with
        | none => rw [e] at o'; exact o'.elim
        | some c =>
          rw [e] at o'
          exact .inr (.inr ⟨z, i, c, ra, rfl, by rw [← lim_eq]; exact h, e, o' _ ι H R .refl rfl⟩)
      · rw [if_neg h] at o'; exact o'.elim
    · have o' : Out K E (Rp K) ι H (optR ((seqOf ms a).bind fun ds => atI ds i) ms) Q := by
        cases a with
        | str z => exact (ha ⟨z, rfl⟩).elim
        | _ => exact o
      cases e : seqOf ms a with
      | none => rw [e] at o'; exact o'.elim
      | some ds =>
        have o2 : Out K E (Rp K) ι H (optR (atI ds i) ms) Q := by rw [e] at o'; exact o'
        cases e2 : atI ds i with
        | none => rw [e2] at o2; exact o2.elim
        | some d =>
          rw [e2] at o2
          obtain ⟨p, xs, rfl, r, hq⟩ := R.seq e ra
          obtain ⟨v, e3, e4⟩ := atI_rel r e2
          rcases hq with hq | hq
          · exact .inl ⟨p, xs, i, v, rfl, rfl, hq, e3, o2 _ ι H R .refl e4⟩
          · exact .inr (.inl ⟨p, xs, i, v, rfl, rfl, hq, e3, o2 _ ι H R .refl e4⟩)
  | _ => exact o.elim
variable {X : Cx} {a b : Expr} {f g : Env → MS → Res D} {pos : Pos}
theorem d_idx (ha : DE X E a f) (hb : DE X E b g) (hs : PlainIx b := by exact fun _ _ => rfl) : DE X E (.Subscript a b pos) (binE f g idxD) :=
  PE.conv (pe_ix ix_seq ha hb hs) fun _ _ _ h => two q_idx h
abbrev DO (X : Cx) (E : EW) (e : Option Expr) (f : Env → MS → Res (Option Int)) : Prop := PO X e (tOI X.K E f)
theorem PO.conv {e : Option Expr} {t t' : TO} (h : PO X e t) (c : ∀ σ H Q, t' σ H Q → t σ H Q) : PO X e t' := ⟨fun pins s σ H Q I q => h.run pins s σ H Q I (c σ H Q q)⟩
theorem o_none : DO X E none nonO := PO.conv po_none fun σ H Q ⟨ι, env, ms, r, ev, o⟩ => o none ι H r .refl rfl
theorem o_some (h : DE X E a f) : DO X E (some a) (someO f) := PO.conv (po_some h) fun σ H Q ⟨ι, env, ms, r0, ev, o⟩ => tR_seq r0 ev o fun ι1 H1 ms1 d x B1 o1 => by
  cases d with
  | int i => exact ⟨i, B1.r, o1 _ ι1 H1 B1.rel .refl rfl⟩
  | _ => exact o1.elim
theorem cut_rel {ds : List D} {xs : List V} (lo hi : Option Int) (r : Rps K ι H ds xs) : Rps K ι H (cutD ds lo hi) (cutV xs lo hi) := by
  unfold cutD cutV
  rw [r.length]
  exact (r.drop _).take _
theorem whole_cut {ds : List D} {lo hi : Option Int} (h : HT.sIx ds.length 0 lo = 0 ∧ HT.sIx ds.length ds.length hi = ds.length) : cutD ds lo hi = ds := by
  unfold cutD
  rw [h.1, h.2, List.drop_zero, Nat.sub_zero, List.take_length]
/-- a slice: mk makes the new list -/
theorem p_sl {mk : List D → MS → Res D} (hmk : ∀ (ι : Ct) (H : Hp) (ms : MS) (ds : List D) (xs : List V) (Q : VK), Rel K ι H ms → Rps K ι H ds xs → Out K E (Rp K) ι H (mk ds ms) Q → xs.length ≤ sizeLine ∧ ∀ p, H p = none → Q (.ref p) (upd H p (.lst xs)))
    {ι : Ct} {H : Hp} {ms : MS} {d : D} {x : V} {lo hi : Option Int} {Q : VK} (R : Rel K ι H ms) (r : Rp K ι H d x) (o : Out K E (Rp K) ι H (slD mk d lo hi ms) Q) :
    rSlL K x lo hi H Q ∨ (∃ a xs, x = .ref a ∧ SqT K H a xs ∧ (HT.sIx xs.length 0 lo = 0 ∧ HT.sIx xs.length xs.length hi = xs.length) ∧ Q (.ref a) H) ∨ rSlT K x lo hi H Q ∨ rSlS x lo hi H Q := by
  by_cases hs : ∃ z, d = .str z
  · obtain ⟨z, rfl⟩ := hs
    have o' : Out K E (Rp K) ι H (if z.length ≤ LIM then .ok (.str (cutS z lo hi)) ms else .bad) Q := o
    by_cases h : z.length ≤ LIM
    · rw [if_pos h] at o'
      exact .inr (.inr (.inr ⟨z, r, by rw [← lim_eq]; exact h, o' _ ι H R .refl rfl⟩))
    · rw [if_neg h] at o'; exact o'.elim
  by_cases ht : ∃ ds, d = .tup ds
  · obtain ⟨ds, rfl⟩ := ht
    obtain ⟨p, xs, rfl, hq, rs⟩ := r
    have o' : Out K E (Rp K) ι H (if HT.sIx ds.length 0 lo = 0 ∧ HT.sIx ds.length ds.length hi = ds.length then .ok (.tup ds) ms else .ok (.tup (cutD ds lo hi)) ms) Q := o
    by_cases h : HT.sIx ds.length 0 lo = 0 ∧ HT.sIx ds.length ds.length hi = ds.length
    · rw [if_pos h] at o'
      exact .inr (.inl ⟨p, xs, rfl, hq, by rw [rs.length]; exact h, o' _ ι H R .refl ⟨p, xs, rfl, hq, rs⟩⟩)
    · rw [if_neg h] at o'
      refine .inr (.inr (.inl ⟨p, xs, rfl, hq, by rw [rs.length]; exact h, fun q hp => ?_⟩))
      exact o' _ ι _ (R.new hp) (Le.new R hp) ⟨q, _, rfl, SqT.of upd_same, Rps.mono (Le.new R hp) _ _ (cut_rel lo hi rs)⟩
  · have o' : Out K E (Rp K) ι H (match rlOf ms d with | some ds => mk (cutD ds lo hi) ms | none => .bad) Q := by
      cases d with
      | str z => exact (hs ⟨z, rfl⟩).elim
      | tup z => exact (ht ⟨z, rfl⟩).elim
      | _ => exact o
    cases e : rlOf ms d with
    | none => rw [e] at o'; exact o'.elim
    | some ds =>
      rw [e] at o'
      obtain ⟨p, xs, rfl, rs, hq⟩ := R.rl e r
      obtain ⟨_, k⟩ := hmk ι H ms _ _ Q R (cut_rel lo hi rs) o'
      exact .inl ⟨p, xs, rfl, hq, k⟩
def rSlW (K : PySem.W.Frag) : V → Option Int → Option Int → Hp → VK → Prop := fun x lo hi H Q => ∃ a xs, x = .ref a ∧ SqT K H a xs ∧ (HT.sIx xs.length 0 lo = 0 ∧ HT.sIx xs.length xs.length hi = xs.length) ∧ Q (.ref a) H
theorem sl_tupW : SlR X (rSlW X.K) := by
  intro pins s σ H x v vl vu lo hi sl Q I rx hs pl pu h
  obtain ⟨a, xs, rfl, ht, hw, q⟩ := h
  cases rx
  obtain ⟨its, r, p, hz⟩ := I.tuple ht
  have hl := r.length
  exact ⟨"tuple", _, slot_tuple_getitem.lookup, p.typeIs, getItem_tuple_whole p hs pl pu (by rw [List.size_toArray, ← hl]; exact hw) ⟨.ref a, H, I, rfl, q⟩⟩
theorem slice_of {mk : List D → MS → Res D} {e : Expr} {lo hi : Option Expr} {fl fh : Env → MS → Res (Option Int)} {p2 : Pos}
    (hmk : ∀ (ι : Ct) (H : Hp) (ms : MS) (ds : List D) (xs : List V) (Q : VK), Rel X.K ι H ms → Rps X.K ι H ds xs → Out X.K E (Rp X.K) ι H (mk ds ms) Q → xs.length ≤ sizeLine ∧ ∀ p, H p = none → Q (.ref p) (upd H p (.lst xs)))
    (he : DE X E e f) (hl : DO X E lo fl) (hh : DO X E hi fh) : DE X E (.Subscript e (.Slice lo hi none p2) pos) (sliceE mk f fl fh) :=
  PE.conv (pe_slice (sl_list.or (sl_tupW.or (sl_tup.or sl_str))) he hl hh) fun σ H Q ⟨ι, env, ms, r0, ev, o⟩ => by
    refine tR_seq r0 ev o fun ι1 H1 ms1 a x B1 o1 => ?_
    refine tR_seq B1.rel B1.env o1 fun ι2 H2 ms2 l l' B2 o2 => ?_
    refine tR_seq B2.rel B2.env o2 fun ι3 H3 ms3 u u' B3 o3 => ?_
    obtain rfl : l' = l := B2.r
    obtain rfl : u' = u := B3.r
    exact p_sl hmk B3.rel (Rp.mono (B2.le.trans B3.le) _ _ B1.r) o3
theorem d_slice {e : Expr} {lo hi : Option Expr} {fl fh : Env → MS → Res (Option Int)} {p2 : Pos} (he : DE X E e f) (hl : DO X E lo fl) (hh : DO X E hi fh) : DE X E (.Subscript e (.Slice lo hi none p2) pos) (sliceE mkLst f fl fh) :=
  slice_of (fun _ _ _ _ _ _ R r o => mkLst_ok R r o) he hl hh
theorem d_sliceM {e : Expr} {lo hi : Option Expr} {fl fh : Env → MS → Res (Option Int)} {p2 : Pos} (he : DE X E e f) (hl : DO X E lo fl) (hh : DO X E hi fh) : DE X E (.Subscript e (.Slice lo hi none p2) pos) (sliceE mkMut f fl fh) :=
  slice_of (fun _ _ _ _ _ _ R r o => mkMut_ok R r o) he hl hh
end
end DL

set_option maxHeartbeats 1000000
namespace DL
open PySem PySem.Spec L2
open PyProof.Rows hiding St

/-! ### statements -/
inductive Fl where
  | nx | brk | cont | ret (d : D)
abbrev SR := Fl × Env
abbrev SF := Env → MS → Res SR
def OutS (K : PySem.W.Frag) (E : EW) (ι : Ct) (H : Hp) (r : Res SR) (D : Ends) : Prop := match r with
  | .bad => False
  | .exc x ms' => ∀ ι' H', Rel K ι' H' ms' → Le ι H ι' H' → E x ι' H'
  | .ok (.nx, env') ms' => ∀ σ' ι' H', Rel K ι' H' ms' → Le ι H ι' H' → EnvOk K ι' H' env' σ' → D.nx σ' H'
  | .ok (.brk, env') ms' => ∀ σ' ι' H', Rel K ι' H' ms' → Le ι H ι' H' → EnvOk K ι' H' env' σ' → D.bk σ' H'
  | .ok (.cont, env') ms' => ∀ σ' ι' H', Rel K ι' H' ms' → Le ι H ι' H' → EnvOk K ι' H' env' σ' → D.ct σ' H'
  | .ok (.ret d, _) ms' => ∀ v ι' H', Rel K ι' H' ms' → Le ι H ι' H' → Rp K ι' H' d v → D.rt v H'
section
variable {K : PySem.W.Frag} {E : EW} {ι ι' : Ct} {H H' : Hp}
theorem OutS.from {r : Res SR} {D : Ends} (l : Le ι H ι' H') (o : OutS K E ι H r D) : OutS K E ι' H' r D := by
  cases r with
  | bad => exact o
  | exc x ms => exact fun ι2 H2 r2 l2 => o ι2 H2 r2 (l.trans l2)
  | ok a ms =>
    obtain ⟨fl, env'⟩ := a
    cases fl with
    | nx => exact fun σ ι2 H2 r2 l2 e => o σ ι2 H2 r2 (l.trans l2) e
    | brk => exact fun σ ι2 H2 r2 l2 e => o σ ι2 H2 r2 (l.trans l2) e
    | cont => exact fun σ ι2 H2 r2 l2 e => o σ ι2 H2 r2 (l.trans l2) e
    | ret d => exact fun v ι2 H2 r2 l2 e => o v ι2 H2 r2 (l.trans l2) e
end
def tS (K : PySem.W.Frag) (E : EW) (F : SF) : TS := fun D σ H => ∃ ι env ms, Rel K ι H ms ∧ EnvOk K ι H env σ ∧ OutS K E ι H (F env ms) D
abbrev DS (X : Cx) (E : EW) (st : Stmt) (F : SF) : Prop := PS X st (tS X.K E F)
abbrev DSs (X : Cx) (E : EW) (st : List Stmt) (F : SF) : Prop := PSs X st (tS X.K E F)
/-- an expression, then what follows -/
theorem tR_seqS {α β : Type} {K : PySem.W.Frag} {E : EW} {R : Ct → Hp → α → β → Prop} {f : Env → MS → Res α} {k : α → MS → Res SR} {σ : St} {ι : Ct} {H : Hp} {env : Env} {ms : MS} {D : Ends} {Q' : β → Hp → Prop}
    (r : Rel K ι H ms) (ev : EnvOk K ι H env σ) (o : OutS K E ι H ((f env ms).bind k) D)
    (h : ∀ ι1 H1 ms1 a b, Bh K R ι H env σ ι1 H1 ms1 a b → OutS K E ι1 H1 (k a ms1) D → Q' b H1) : tR K E R f σ H Q' := by
  refine ⟨ι, env, ms, r, ev, ?_⟩
  cases e : f env ms with
  | bad => rw [e] at o; exact o
  | ok a ms1 =>
    rw [e] at o
    exact fun b ι1 H1 r1 l1 q1 => h ι1 H1 ms1 a b ⟨r1, ev.mono l1, l1, q1⟩ (OutS.from l1 o)
  | exc x ms1 => rw [e] at o; exact o
@[simp] def skipS : SF := fun env ms => .ok (.nx, env) ms
@[simp] def brkS : SF := fun env ms => .ok (.brk, env) ms
@[simp] def contS : SF := fun env ms => .ok (.cont, env) ms
@[simp] def seqS (F G : SF) : SF := fun env ms => (F env ms).bind fun a ms1 => match a with
  | (.nx, env1) => G env1 ms1
  | a => .ok a ms1
@[simp] def dropS (f : Env → MS → Res D) : SF := fun env ms => (f env ms).bind fun _ ms1 => .ok (.nx, env) ms1
@[simp] def retS (f : Env → MS → Res D) : SF := fun env ms => (f env ms).bind fun d ms1 => .ok (.ret d, env) ms1
@[simp] def retN : SF := fun env ms => .ok (.ret .non, env) ms
@[simp] def ifS (t : Env → MS → Res Bool) (F G : SF) : SF := fun env ms => (t env ms).bind fun b ms1 => if b = true then F env ms1 else G env ms1
@[simp] def setS (i : Nat) (f : Env → MS → Res D) : SF := fun env ms => (f env ms).bind fun d ms1 => .ok (.nx, env.set i (some d)) ms1
section
variable {X : Cx} {E : EW} {st : Stmt} {rest : List Stmt} {F G : SF} {e : Expr} {f : Env → MS → Res D} {t : Env → MS → Res Bool} {pos : Pos}
theorem s_nil : DSs X E [] skipS := PSs.conv pss_nil fun σ H D ⟨ι, env, ms, r, ev, o⟩ => o σ ι H r .refl ev
theorem s_one (h : DS X E st F) : DSs X E [st] F := pss_one h
theorem s_cons (h1 : DS X E st F) (h2 : DSs X E rest G) : DSs X E (st :: rest) (seqS F G) := PSs.conv (pss_cons h1 h2) fun σ H D ⟨ι, env, ms, r, ev, o⟩ => by
  refine ⟨ι, env, ms, r, ev, ?_⟩
  unfold seqS at o
  cases q : F env ms with
  | bad => rw [q] at o; exact o
  | exc x ms1 => rw [q] at o; exact o
  | ok a ms1 =>
    rw [q] at o
    obtain ⟨fl, env1⟩ := a
    cases fl with
    | nx => exact fun σ' ι' H' r' l' e' => ⟨ι', env1, ms1, r', e', OutS.from l' o⟩
    | brk => exact o
    | cont => exact o
    | ret d => exact o
theorem s_pass : DS X E (.Pass pos) skipS := PS.conv ps_pass fun σ H D ⟨ι, env, ms, r, ev, o⟩ => o σ ι H r .refl ev
theorem s_brk : DS X E (.Break pos) brkS := PS.conv ps_break fun σ H D ⟨ι, env, ms, r, ev, o⟩ => o σ ι H r .refl ev
theorem s_cont : DS X E (.Continue pos) contS := PS.conv ps_continue fun σ H D ⟨ι, env, ms, r, ev, o⟩ => o σ ι H r .refl ev
theorem s_drop (h : DE X E e f) (hs : swapsWith e none pos.line X.env = pure false := by rfl) : DS X E (.Expr e pos) (dropS f) :=
  PS.conv (ps_expr h hs) fun σ H D ⟨ι, env, ms, r, ev, o⟩ => tR_seqS r ev o fun ι1 H1 ms1 a b B o1 => o1 σ ι1 H1 B.rel .refl B.env
theorem s_ret (h : DE X E e f) : DS X E (.Return (some e) pos) (retS f) :=
  PS.conv (ps_ret h) fun σ H D ⟨ι, env, ms, r, ev, o⟩ => tR_seqS r ev o fun ι1 H1 ms1 a b B o1 => o1 b ι1 H1 B.rel .refl B.r
theorem s_retN : DS X E (.Return none pos) retN := PS.conv ps_retN fun σ H D ⟨ι, env, ms, r, ev, o⟩ => o .non ι H r .refl rfl
theorem s_if {c : Expr} {a b : List Stmt} (hc : DT X E c t) (ha : DSs X E a F) (hb : DSs X E b G) : DS X E (.If c a b pos) (ifS t F G) :=
  PS.conv (ps_if hc ha hb) fun σ H D ⟨ι, env, ms, r, ev, o⟩ => tR_seqS r ev o fun ι1 H1 ms1 a b B o1 => by
    obtain rfl : b = a := B.r
    cases b with
    | true => exact ⟨ι1, env, ms1, B.rel, B.env, o1⟩
    | false => exact ⟨ι1, env, ms1, B.rel, B.env, o1⟩
theorem s_set {i : Nat} {x : Str} {pos' : Pos} (hN : X.N.Nodup) (hi : X.N[i]? = some x) (hx : Loc X.env.scope x) (he : DE X E e f) (hs : swapsWith e (some (.Name x pos')) pos.line X.env = pure false := by rfl)
    (hf : X.fn x = true ∨ X.env.scope.names.lookup x = some .local := by first | exact .inl rfl | exact .inr rfl | assumption) : DS X E (.Assign [.Name x pos'] e pos) (setS i f) :=
  PS.conv (ps_set hN hi hx he hs hf) fun σ H D ⟨ι, env, ms, r, ev, o⟩ => tR_seqS r ev o fun ι1 H1 ms1 a b B o1 => o1 _ ι1 H1 B.rel .refl (B.env.set B.r i)
end

/-! ### targets -/
abbrev TF := D → Env → MS → Res Env
def OutT (K : PySem.W.Frag) (E : EW) (ι : Ct) (H : Hp) (r : Res Env) (Q : St → Hp → Prop) : Prop := match r with
  | .bad => False
  | .exc x ms' => ∀ ι' H', Rel K ι' H' ms' → Le ι H ι' H' → E x ι' H'
  | .ok env' ms' => ∀ σ' ι' H', Rel K ι' H' ms' → Le ι H ι' H' → EnvOk K ι' H' env' σ' → Q σ' H'
theorem OutT.from {K : PySem.W.Frag} {E : EW} {ι ι' : Ct} {H H' : Hp} {r : Res Env} {Q : St → Hp → Prop} (l : Le ι H ι' H') (o : OutT K E ι H r Q) : OutT K E ι' H' r Q := by
  cases r with
  | bad => exact o
  | exc x ms => exact fun ι2 H2 r2 l2 => o ι2 H2 r2 (l.trans l2)
  | ok a ms => exact fun σ ι2 H2 r2 l2 e => o σ ι2 H2 r2 (l.trans l2) e
def tG (K : PySem.W.Frag) (E : EW) (T : TF) : TG := fun v σ H Q => ∃ ι env ms d, Rel K ι H ms ∧ EnvOk K ι H env σ ∧ Rp K ι H d v ∧ OutT K E ι H (T d env ms) Q
abbrev DG (X : Cx) (E : EW) (tg : Expr) (T : TF) : Prop := PG X tg (tG X.K E T)
theorem PG.conv {X : Cx} {e : Expr} {t t' : TG} (h : PG X e t) (c : ∀ v σ H Q, t' v σ H Q → t v σ H Q) : PG X e t' := ⟨fun pins s σ H v u Q I r q => h.run pins s σ H v u Q I r (c v σ H Q q)⟩
def tGs (K : PySem.W.Frag) (E : EW) (T : List D → Env → MS → Res Env) : TGs := fun vs σ H Q => ∃ ι env ms ds, Rel K ι H ms ∧ EnvOk K ι H env σ ∧ Rps K ι H ds vs ∧ OutT K E ι H (T ds env ms) Q
abbrev DGs (X : Cx) (E : EW) (tg : List Expr) (T : List D → Env → MS → Res Env) : Prop := PGs X tg (tGs X.K E T)
theorem PGs.conv {X : Cx} {e : List Expr} {t t' : TGs} (h : PGs X e t) (c : ∀ v σ H Q, t' v σ H Q → t v σ H Q) : PGs X e t' := ⟨fun pins s σ H v u Q I r q => h.run pins s σ H v u Q I r (c v σ H Q q)⟩
@[simp] def nameT (i : Nat) : TF := fun d env ms => .ok (env.set i (some d)) ms
@[simp] def nilT (ds : List D) (env : Env) (ms : MS) : Res Env := match ds with
  | [] => .ok env ms
  | _ => .bad
@[simp] def consT (T : TF) (Ts : List D → Env → MS → Res Env) (ds : List D) (env : Env) (ms : MS) : Res Env := match ds with
  | [] => .bad
  | d :: r => (T d env ms).bind fun env1 ms1 => Ts r env1 ms1
@[simp] def tupT (n : Nat) (Ts : List D → Env → MS → Res Env) : TF := fun d env ms => match d with
  | .tup ds => if ds.length = n then Ts ds env ms else .bad
  | _ => .bad
section
variable {X : Cx} {E : EW} {e : Expr} {es : List Expr} {T : TF} {Ts : List D → Env → MS → Res Env} {pos : Pos}
theorem g_name {i : Nat} {x : Str} (hN : X.N.Nodup) (hi : X.N[i]? = some x) (hx : Loc X.env.scope x) (hf : X.fn x = true ∨ X.env.scope.names.lookup x = some .local := by first | exact .inl rfl | exact .inr rfl | assumption) : DG X E (.Name x pos) (nameT i) :=
  PG.conv (pg_name hN hi hx hf) fun v σ H Q ⟨ι, env, ms, d, r, ev, rd, o⟩ => o _ ι H r .refl (ev.set rd i)
theorem g_nil : DGs X E [] nilT := PGs.conv pgs_nil fun vs σ H Q ⟨ι, env, ms, ds, r, ev, rd, o⟩ => by
  cases ds with
  | nil => cases rd; exact ⟨rfl, o σ ι H r .refl ev⟩
  | cons d ds => exact o.elim
theorem g_cons (h1 : DG X E e T) (h2 : DGs X E es Ts) (hs : (assignEach (e :: es) X.env).map (·.2) = assign e X.env :: (assignEach es X.env).map (·.2) := by rfl) : DGs X E (e :: es) (consT T Ts) :=
  PGs.conv (pgs_cons h1 h2 hs) fun vs σ H Q ⟨ι, env, ms, ds, r, ev, rd, o⟩ => by
    cases ds with
    | nil => exact o.elim
    | cons d ds =>
      obtain ⟨v, vr, rfl, h1, h2⟩ := rd
      refine ⟨v, vr, rfl, ι, env, ms, d, r, ev, h1, ?_⟩
      unfold consT at o
      cases q : T d env ms with
      | bad => simp only [q] at o; exact o
      | exc x ms1 => simp only [q] at o; exact o
      | ok env1 ms1 =>
        simp only [q] at o
        exact fun σ' ι' H' r' l' e' => ⟨ι', env1, ms1, ds, r', e', Rps.mono l' _ _ h2, OutT.from l' o⟩
theorem g_tup {k n : Nat} (hc : X.calm = true) (h : DGs X E es Ts) (hn : (assignEach es X.env).length = n := by rfl) (hst : (assignEach es X.env).findIdx? (·.1) = none := by rfl) : DG X E (.Tuple es k pos) (tupT n Ts) :=
  PG.conv (pg_tup hc h hn hst) fun v σ H Q ⟨ι, env, ms, d, r, ev, rd, o⟩ => by
    cases d with
    | tup ds =>
      obtain ⟨p, xs, rfl, hq, rs⟩ := rd
      have o' : OutT X.K E ι H (if ds.length = n then Ts ds env ms else .bad) Q := o
      by_cases h : ds.length = n
      · rw [if_pos h] at o'
        exact ⟨p, xs, rfl, hq, by rw [rs.length]; exact h, ι, env, ms, ds, r, ev, rs, o'⟩
      · rw [if_neg h] at o'; exact o'.elim
    | _ => exact o.elim
@[simp] def asgS (f : Env → MS → Res D) (T : TF) : SF := fun env ms => (f env ms).bind fun d ms1 => (T d env ms1).bind fun env1 ms2 => .ok (.nx, env1) ms2
variable {tg : Expr} {f : Env → MS → Res D}
theorem s_asg (he : DE X E e f) (hg : DG X E tg T) (hs : swapsWithSole [tg] e pos.line X.env = pure false := by rfl) (hw : swappedStores [tg] e X.env = pure none := by rfl)
    (h1 : (assignEach [tg] X.env).map (·.2) = [assign tg X.env] := by rfl) : DS X E (.Assign [tg] e pos) (asgS f T) :=
  PS.conv (ps_asg he hg hs hw h1) fun σ H D ⟨ι, env, ms, r, ev, o⟩ => tR_seqS r ev o fun ι1 H1 ms1 a b B o1 => by
    refine ⟨ι1, env, ms1, a, B.rel, B.env, B.r, ?_⟩
    cases q : T a env ms1 with
    | bad => rw [q] at o1; exact o1
    | exc x ms2 => rw [q] at o1; exact o1
    | ok env2 ms2 => rw [q] at o1; exact o1
/-- o[i] = v of a list that may change -/
@[simp] def subT (fo fi : Env → MS → Res D) : TF := fun d env ms => (fo env ms).bind fun o ms1 => (fi env ms1).bind fun i ms2 => match o with
  | .ptr n => match i with
    | .int k => match ms2[n]? with
      | some (.lst ds) => match ixN ds.length k with
        | some j => .ok env (ms2.set n (.lst (ds.set j d)))
        | none => .bad
      | _ => .bad
    | _ => .bad
  | _ => .bad
theorem g_sub {o i : Expr} {fo fi : Env → MS → Res D} (ho : DE X E o fo) (hi : DE X E i fi)
    (ha : ∀ v, assign (.Subscript o i pos) X.env v = (do
      let ov ← holding [v] (eval o X.env)
      let iv ← holding [v, ov] (eval i X.env)
      standAt pos
      holding [v, ov, iv] (setItem ov iv v)
      release [v, ov, iv] []) := by intro _; rfl) : DG X E (.Subscript o i pos) (subT fo fi) :=
  PG.conv (pg_sub ho hi set_list ha) fun v σ H Q ⟨ι, env, ms, d, r, ev, rd, o⟩ => by
    unfold subT at o
    refine ⟨ι, env, ms, r, ev, ?_⟩
    cases q : fo env ms with
    | bad => simp only [q] at o; exact o
    | exc x ms1 => simp only [q] at o; exact o
    | ok a ms1 =>
      simp only [q, bind_ok] at o
      intro x ι1 H1 r1 l1 ra
      refine ⟨ι1, env, ms1, r1, ev.mono l1, ?_⟩
      cases q2 : fi env ms1 with
      | bad => simp only [q2] at o; exact o
      | exc x ms2 => simp only [q2] at o; exact fun ι2 H2 r2 l2 => o ι2 H2 r2 (l1.trans l2)
      | ok b ms2 =>
        simp only [q2, bind_ok] at o
        intro y ι2 H2 r2 l2 rb
        cases a with
        | ptr n =>
          cases b with
          | int k =>
            cases hb : ms2[n]? with
            | none => simp only [hb] at o; exact o.elim
            | some c =>
              cases c with
              | lst ds =>
                simp only [hb] at o
                cases hj : ixN ds.length k with
                | none => simp only [hj] at o; exact o.elim
                | some j =>
                  simp only [hj] at o
                  obtain ⟨p, rfl, hn⟩ := Rp.mono l2 _ _ ra
                  obtain ⟨xs, h1, h2⟩ := r2.ok n p _ hn hb
                  refine ⟨p, xs, k, j, rfl, rb, h1, by rw [h2.length]; exact hj, ?_⟩
                  have w := Le.write (o := .lst (xs.set j v)) r2 hn
                  refine o σ ι2 _ (r2.write hn ⟨_, upd_same, Rps.mono w _ _ (h2.set j (Rp.mono (l1.trans l2) _ _ rd))⟩) ((l1.trans l2).trans w) ((ev.mono (l1.trans l2)).mono w)
              | _ => simp only [hb] at o; exact o.elim
          | _ => exact o.elim
        | _ => exact o.elim
end

/-! ### what is walked -/
inductive WOut where
  | stop | item (d : D) | bad
/-- what is walked: the data that it leans on, its i-th turn, a bound of its turns -/
structure Src where
  ds : List D
  nx : Nat → MS → WOut
  n : Nat
def JStep (K : PySem.W.Frag) (ι : Ct) (H : Hp) (ms : MS) (J : It) (i : Nat) (w : WOut) : Prop := match w with
  | .stop => J.stop i H
  | .item d => J.go i H ∧ ∀ x H', J.yld i H x H' → Rel K ι H' ms ∧ Le ι H ι H' ∧ Rp K ι H' d x
  | .bad => True
def JOk (K : PySem.W.Frag) (J : It) (s : Src) (vs : List V) : Prop := ∀ (ι : Ct) (H : Hp) (ms : MS) (i : Nat), Rel K ι H ms → Rps K ι H s.ds vs → JStep K ι H ms J i (s.nx i ms)
def OutI (K : PySem.W.Frag) (E : EW) (ι : Ct) (H : Hp) (r : Res Src) (R : It → Hp → Prop) : Prop := match r with
  | .bad => False
  | .exc x ms' => ∀ ι' H', Rel K ι' H' ms' → Le ι H ι' H' → E x ι' H'
  | .ok s ms' => ∀ J ι' H' vs, Rel K ι' H' ms' → Le ι H ι' H' → Rps K ι' H' s.ds vs → JOk K J s vs → R J H'
def tI (K : PySem.W.Frag) (E : EW) (g : Env → MS → Res Src) : TI := fun σ H R => ∃ ι env ms, Rel K ι H ms ∧ EnvOk K ι H env σ ∧ OutI K E ι H (g env ms) R
abbrev DI (X : Cx) (E : EW) (tg iter : Expr) (g : Env → MS → Res Src) : Prop := PI X tg iter (tI X.K E g)
theorem PI.conv {X : Cx} {tg e : Expr} {t t' : TI} (h : PI X tg e t) (c : ∀ σ H R, t' σ H R → t σ H R) : PI X tg e t' := ⟨fun pins s σ H R I q => h.run pins s σ H R I (c σ H R q)⟩
theorem OutI.from {K : PySem.W.Frag} {E : EW} {ι ι' : Ct} {H H' : Hp} {r : Res Src} {Q : It → Hp → Prop} (l : Le ι H ι' H') (o : OutI K E ι H r Q) : OutI K E ι' H' r Q := by
  cases r with
  | bad => exact o
  | exc x ms => exact fun ι2 H2 r2 l2 => o ι2 H2 r2 (l.trans l2)
  | ok a ms => exact fun J ι2 H2 vs r2 l2 e => o J ι2 H2 vs r2 (l.trans l2) e
theorem tR_seqI {α β : Type} {K : PySem.W.Frag} {E : EW} {R : Ct → Hp → α → β → Prop} {f : Env → MS → Res α} {k : α → MS → Res Src} {σ : St} {ι : Ct} {H : Hp} {env : Env} {ms : MS} {Q : It → Hp → Prop} {Q' : β → Hp → Prop}
    (r : Rel K ι H ms) (ev : EnvOk K ι H env σ) (o : OutI K E ι H ((f env ms).bind k) Q)
    (h : ∀ ι1 H1 ms1 a b, Bh K R ι H env σ ι1 H1 ms1 a b → OutI K E ι1 H1 (k a ms1) Q → Q' b H1) : tR K E R f σ H Q' := by
  refine ⟨ι, env, ms, r, ev, ?_⟩
  cases e : f env ms with
  | bad => rw [e] at o; exact o
  | ok a ms1 =>
    rw [e] at o
    exact fun b ι1 H1 r1 l1 q1 => h ι1 H1 ms1 a b ⟨r1, ev.mono l1, l1, q1⟩ (OutI.from l1 o)
  | exc x ms1 => rw [e] at o; exact o
def nxOf (o : Option (List D)) (i : Nat) : WOut := match o with
  | none => .bad
  | some ds => match ds[i]? with
    | none => .stop
    | some d => .item d
@[simp] def lstSrc (f : Env → MS → Res D) (env : Env) (ms : MS) : Res Src := (f env ms).bind fun d ms1 => match rlOf ms1 d with
  | some ds => .ok ⟨[d], fun i m => nxOf (rlOf m d) i, ds.length + 1⟩ ms1
  | none => .bad
@[simp] def tupSrc (f : Env → MS → Res D) (env : Env) (ms : MS) : Res Src := (f env ms).bind fun d ms1 => match d with
  | .tup ds => .ok ⟨[.tup ds], fun i _ => nxOf (some ds) i, ds.length + 1⟩ ms1
  | _ => .bad
@[simp] def strSrc (f : Env → MS → Res D) (env : Env) (ms : MS) : Res Src := (f env ms).bind fun d ms1 => match d with
  | .str x => .ok ⟨[], fun i _ => nxOf (some (x.cps.toList.map fun c => .str ⟨#[c]⟩)) i, x.cps.size + 1⟩ ms1
  | _ => .bad
def rngNx (lo : Int) (n : Nat) (i : Nat) : WOut := if i < n then .item (.int (lo + i)) else .stop
@[simp] def rngSrc1 (f : Env → MS → Res D) (env : Env) (ms : MS) : Res Src := (f env ms).bind fun d ms1 => match d with
  | .int j => if -(2 ^ 62) ≤ j ∧ j < 2 ^ 62 then .ok ⟨[], fun i _ => rngNx 0 j.toNat i, j.toNat + 1⟩ ms1 else .bad
  | _ => .bad
@[simp] def rngSrc2 (f g : Env → MS → Res D) (env : Env) (ms : MS) : Res Src := (f env ms).bind fun d ms1 => (g env ms1).bind fun e ms2 => match d with
  | .int i => match e with
    | .int j => if -(2 ^ 62) ≤ i ∧ i < 2 ^ 62 ∧ -(2 ^ 62) ≤ j ∧ j < 2 ^ 62 then .ok ⟨[], fun k _ => rngNx i (j - i).toNat k, (j - i).toNat + 1⟩ ms2 else .bad
    | _ => .bad
  | _ => .bad
section
variable {X : Cx} {E : EW} {tg l : Expr} {f : Env → MS → Res D} {fs : Env → MS → Res (List D)}
theorem i_lst (h : DE X E l f) : DI X E tg l (lstSrc f) := PI.conv (pi_list h) fun σ H R ⟨ι, env, ms, r, ev, o⟩ => tR_seqI r ev o fun ι1 H1 ms1 d x B o1 => by
  cases e : rlOf ms1 d with
  | none => simp only [e] at o1; exact o1.elim
  | some ds =>
    simp only [e] at o1
    obtain ⟨p, xs, rfl, rs, hq⟩ := B.rel.rl e B.r
    refine ⟨p, rfl, ⟨xs, hq⟩, o1 _ ι1 H1 [.ref p] B.rel .refl (Rps.mk1 B.r) fun ι2 H2 ms2 i R2 rd => ?_⟩
    obtain ⟨v, e1, rd⟩ := rd.one
    cases e1
    show JStep X.K ι2 H2 ms2 (Itl X.K p) i (nxOf (rlOf ms2 d) i)
    cases e2 : rlOf ms2 d with
    | none => exact True.intro
    | some es =>
      obtain ⟨p', ys, e3, rs2, hq2⟩ := R2.rl e2 rd
      cases e3
      unfold nxOf
      cases e4 : es[i]? with
      | none =>
        simp only [e4]
        exact ⟨ys, hq2, by rw [rs2.length]; exact List.getElem?_eq_none_iff.mp e4⟩
      | some y =>
        simp only [e4]
        obtain ⟨v, e5, e6⟩ := rs2.get e4
        refine ⟨⟨ys, v, hq2, e5⟩, fun x H' hy => ?_⟩
        obtain ⟨rfl, hy⟩ := hy
        have := hy ys hq2
        rw [e5] at this
        cases this
        exact ⟨R2, .refl, e6⟩
theorem i_tup (h : DE X E l f) : DI X E tg l (tupSrc f) := PI.conv (pi_tup h) fun σ H R ⟨ι, env, ms, r, ev, o⟩ => tR_seqI r ev o fun ι1 H1 ms1 d x B o1 => by
  cases d with
  | tup ds =>
    obtain ⟨p, xs, rfl, hq, rs⟩ := B.r
    refine ⟨p, rfl, ⟨xs, hq⟩, o1 _ ι1 H1 [.ref p] B.rel .refl (Rps.mk1 ⟨p, xs, rfl, hq, rs⟩) fun ι2 H2 ms2 i R2 rd => ?_⟩
    obtain ⟨v, e1, p', ys, e3, hq2, rs2⟩ := rd.one
    cases e1
    cases e3
    show JStep X.K ι2 H2 ms2 (Itt X.K p) i (nxOf (some ds) i)
    unfold nxOf
    cases e4 : ds[i]? with
    | none =>
      simp only [e4]
      exact ⟨ys, hq2, by rw [rs2.length]; exact List.getElem?_eq_none_iff.mp e4⟩
    | some y =>
      simp only [e4]
      obtain ⟨v, e5, e6⟩ := rs2.get e4
      refine ⟨⟨ys, v, hq2, e5⟩, fun x H' hy => ?_⟩
      obtain ⟨rfl, hy⟩ := hy
      have := hy ys hq2
      rw [e5] at this
      cases this
      exact ⟨R2, .refl, e6⟩
  | _ => exact o1.elim
theorem i_str (h : DE X E l f) : DI X E tg l (strSrc f) := PI.conv (pi_str h) fun σ H R ⟨ι, env, ms, r, ev, o⟩ => tR_seqI r ev o fun ι1 H1 ms1 d x B o1 => by
  cases d with
  | str z =>
    refine ⟨z, B.r, o1 _ ι1 H1 [] B.rel .refl rfl fun ι2 H2 ms2 i R2 rd => ?_⟩
    show JStep X.K ι2 H2 ms2 (Its z) i (nxOf (some (z.cps.toList.map fun c => D.str ⟨#[c]⟩)) i)
    unfold nxOf
    by_cases hi : i < z.cps.size
    · have e : (z.cps.toList.map fun c => D.str ⟨#[c]⟩)[i]? = some (D.str ⟨#[z.cps[i]]⟩) := by simp [hi]
      simp only [e]
      refine ⟨hi, fun x H' hy => ?_⟩
      obtain ⟨rfl, c, e2, rfl⟩ := hy
      rw [Array.getElem?_eq_getElem hi] at e2
      cases e2
      exact ⟨R2, .refl, rfl⟩
    · have e : (z.cps.toList.map fun c => D.str ⟨#[c]⟩)[i]? = none := by simp; omega
      simp only [e]
      exact Nat.le_of_not_lt hi
  | _ => exact o1.elim
theorem rng_ok {K : PySem.W.Frag} {lo : Int} {n m : Nat} : JOk K (Itr lo n) ⟨[], fun i _ => rngNx lo n i, m⟩ [] := fun ι2 H2 ms2 i R2 rd => by
  show JStep K ι2 H2 ms2 (Itr lo n) i (rngNx lo n i)
  unfold rngNx
  by_cases h : i < n
  · rw [if_pos h]
    refine ⟨h, fun x H' hy => ?_⟩
    obtain ⟨rfl, rfl⟩ := hy
    exact ⟨R2, .refl, rfl⟩
  · rw [if_neg h]
    exact Nat.le_of_not_lt h
theorem i_rng1 {a : Expr} {p pos : Pos} (hg : Gl X "range") (hm : X.mg "range" = none) (ha : DE X E a f) (hs : starEach [a] X.env = [(false, eval a X.env)] := by rfl) : DI X E tg (.Call (.Name "range" p) [a] [] pos) (rngSrc1 f) :=
  PI.conv (pi_range1 hg hm (a_cons ha a_nil hs) hs) fun σ H R ⟨ι, env, ms, r, ev, o⟩ => by
    refine ⟨ι, env, ms, r, ev, ?_⟩
    unfold rngSrc1 at o
    unfold consA
    cases q : f env ms with
    | bad => rw [q] at o; exact o
    | exc x ms1 => rw [q] at o; exact o
    | ok d ms1 =>
      simp only [q, bind_ok] at o
      simp only [bind_ok, nilA]
      intro vs ι1 H1 R1 l1 rv
      obtain ⟨v, rfl, rd⟩ := rv.one
      cases d with
      | int j =>
        by_cases h : -(2 ^ 62) ≤ j ∧ j < 2 ^ 62
        · simp only [if_pos h] at o
          cases rd
          exact ⟨j, rfl, h.1, h.2, o _ ι1 H1 [] R1 l1 rfl rng_ok⟩
        · simp only [if_neg h] at o; exact o.elim
      | _ => exact o.elim
theorem i_rng2 {a b : Expr} {g : Env → MS → Res D} {p pos : Pos} (hg : Gl X "range") (hm : X.mg "range" = none) (ha : DE X E a f) (hb : DE X E b g) (hs : starEach [a, b] X.env = [(false, eval a X.env), (false, eval b X.env)] := by rfl) (hs2 : starEach [b] X.env = [(false, eval b X.env)] := by rfl)
    (hs3 : starEach [a, b] X.env = (false, eval a X.env) :: starEach [b] X.env := by rfl) : DI X E tg (.Call (.Name "range" p) [a, b] [] pos) (rngSrc2 f g) :=
  PI.conv (pi_range2 hg hm (a_cons ha (a_cons hb a_nil hs2) hs3) hs hs2) fun σ H R ⟨ι, env, ms, r, ev, o⟩ => by
    refine ⟨ι, env, ms, r, ev, ?_⟩
    unfold rngSrc2 at o
    unfold consA
    cases q : f env ms with
    | bad => rw [q] at o; exact o
    | exc x ms1 => rw [q] at o; exact o
    | ok d ms1 =>
      simp only [q, bind_ok] at o
      simp only [bind_ok]
      cases q2 : g env ms1 with
      | bad => rw [q2] at o; exact o
      | exc x ms2 => rw [q2] at o; exact o
      | ok e ms2 =>
        simp only [q2, bind_ok] at o
        simp only [bind_ok, nilA]
        intro vs ι1 H1 R1 l1 rv
        obtain ⟨v, _, rfl, rd, rv⟩ := rv
        obtain ⟨v2, rfl, re⟩ := rv.one
        cases d with
        | int i =>
          cases e with
          | int j =>
            by_cases h : -(2 ^ 62) ≤ i ∧ i < 2 ^ 62 ∧ -(2 ^ 62) ≤ j ∧ j < 2 ^ 62
            · simp only [if_pos h] at o
              cases rd
              cases re
              exact ⟨i, j, rfl, h, o _ ι1 H1 [] R1 l1 rfl rng_ok⟩
            · simp only [if_neg h] at o; exact o.elim
          | _ => exact o.elim
        | _ => exact o.elim
end

/-! ### for, while -/
def forLoop (nx : Nat → MS → WOut) (turn : D → SF) : Nat → Nat → SF
  | 0, _, _, _ => .bad
  | n + 1, i, env, ms => match nx i ms with
    | .bad => .bad
    | .stop => .ok (.nx, env) ms
    | .item d => (turn d env ms).bind fun a ms1 => match a with
      | (.nx, env1) => forLoop nx turn n (i + 1) env1 ms1
      | (.cont, env1) => forLoop nx turn n (i + 1) env1 ms1
      | (.brk, env1) => .ok (.nx, env1) ms1
      | (.ret r, env1) => .ok (.ret r, env1) ms1
@[simp] def turnOf (T : TF) (B : SF) : D → SF := fun d env ms => (T d env ms).bind fun env1 ms1 => B env1 ms1
@[simp] def forS (g : Env → MS → Res Src) (T : TF) (B : SF) : SF := fun env ms => (g env ms).bind fun s ms1 => forLoop s.nx (turnOf T B) s.n 0 env ms1
def whileLoop (t : Env → MS → Res Bool) (B : SF) : Nat → SF
  | 0, _, _ => .bad
  | n + 1, env, ms => (t env ms).bind fun b ms1 => if b = true then (B env ms1).bind fun a ms2 => match a with
      | (.nx, env1) => whileLoop t B n env1 ms2
      | (.cont, env1) => whileLoop t B n env1 ms2
      | (.brk, env1) => .ok (.nx, env1) ms2
      | (.ret r, env1) => .ok (.ret r, env1) ms2
    else .ok (.nx, env) ms1
section
variable {X : Cx} {E : EW} {tg iter : Expr} {body : List Stmt} {g : Env → MS → Res Src} {T : TF} {B : SF} {pos : Pos} {t : Env → MS → Res Bool} {c : Expr}
theorem s_for (hp : PassesOwn (model X.prog X.w) X.A X.env X.xe) (hc : X.calm = true) (hi : DI X E tg iter g) (hg : DG X E tg T) (hb : DSs X E body B)
    (hs : ∀ x, foldedSetIterable iter X.env x = pure x := by intro _; rfl) : DS X E (.For tg iter body [] pos) (forS g T B) :=
  PS.conv (ps_for hp hc hi hg hb hs) fun σ H D ⟨ι, env, ms, r, ev, o⟩ => by
    refine ⟨ι, env, ms, r, ev, ?_⟩
    unfold forS at o
    cases q : g env ms with
    | bad => rw [q] at o; exact o
    | exc x ms1 => rw [q] at o; exact o
    | ok s ms1 =>
      simp only [q, bind_ok] at o
      intro J ι1 H1 vs R1 l1 rs jok
      refine ⟨fun i m σ H => ∃ ι' env' ms', Rel X.K ι' H ms' ∧ EnvOk X.K ι' H env' σ ∧ Rps X.K ι' H s.ds vs ∧ OutS X.K E ι' H (forLoop s.nx (turnOf T B) m i env' ms') D, ⟨s.n, ι1, env, ms1, R1, ev.mono l1, rs, OutS.from l1 o⟩, ?_⟩
      rintro i m σ2 H2 ⟨ι2, env2, ms2, R2, ev2, rs2, o2⟩
      cases m with
      | zero => exact o2.elim
      | succ m =>
        have js := jok ι2 H2 ms2 i R2 rs2
        unfold forLoop at o2
        cases w : s.nx i ms2 with
        | bad => simp only [w] at o2; exact o2.elim
        | stop =>
          simp only [w] at o2
          rw [w] at js
          exact .inl ⟨js, o2 σ2 ι2 H2 R2 .refl ev2⟩
        | item d =>
          simp only [w] at o2
          rw [w] at js
          refine .inr ⟨js.1, fun σ H => ∃ ι' env' ms', Rel X.K ι' H ms' ∧ EnvOk X.K ι' H env' σ ∧ Rps X.K ι' H s.ds vs ∧ OutS X.K E ι' H (forLoop s.nx (turnOf T B) m (i + 1) env' ms') D, fun σ' H' h => ⟨m, Nat.lt_succ_self m, h⟩, fun x H' hy => ?_⟩
          obtain ⟨R3, l3, rd⟩ := js.2 x H' hy
          have rs3 := Rps.mono l3 _ _ rs2
          have o3 := OutS.from l3 o2
          refine ⟨ι2, env2, ms2, d, R3, ev2.mono l3, rd, ?_⟩
          unfold turnOf at o3
          cases q3 : T d env2 ms2 with
          | bad => simp only [q3] at o3; exact o3
          | exc x ms3 => simp only [q3] at o3; exact o3
          | ok env3 ms3 =>
            simp only [q3, bind_ok] at o3
            intro σ4 ι4 H4 R4 l4 ev4
            refine ⟨ι4, env3, ms3, R4, ev4, ?_⟩
            have rs4 := Rps.mono l4 _ _ rs3
            have o4 := OutS.from l4 o3
            cases q5 : B env3 ms3 with
            | bad => simp only [q5] at o4; exact o4
            | exc x ms5 => simp only [q5] at o4; exact o4
            | ok a ms5 =>
              simp only [q5, bind_ok] at o4
              obtain ⟨fl, env5⟩ := a
              cases fl with
              | nx => exact fun σ5 ι5 H5 R5 l5 ev5 => ⟨ι5, env5, ms5, R5, ev5, Rps.mono l5 _ _ rs4, OutS.from l5 o4⟩
              | cont => exact fun σ5 ι5 H5 R5 l5 ev5 => ⟨ι5, env5, ms5, R5, ev5, Rps.mono l5 _ _ rs4, OutS.from l5 o4⟩
              | brk => exact o4
              | ret d => exact o4
theorem s_while (n : Nat) (hp : PassesOwn (model X.prog X.w) X.A X.env X.xe) (hc : DT X E c t) (hb : DSs X E body B) : DS X E (.While c body [] pos) (whileLoop t B n) :=
  PS.conv (ps_while hp hc hb) fun σ H D ⟨ι, env, ms, r, ev, o⟩ => by
    refine ⟨fun m σ H => ∃ ι' env' ms', Rel X.K ι' H ms' ∧ EnvOk X.K ι' H env' σ ∧ OutS X.K E ι' H (whileLoop t B m env' ms') D, ⟨n, ι, env, ms, r, ev, o⟩, ?_⟩
    rintro m σ2 H2 ⟨ι2, env2, ms2, R2, ev2, o2⟩
    cases m with
    | zero => exact o2.elim
    | succ m =>
      unfold whileLoop at o2
      refine tR_seqS R2 ev2 o2 fun ι3 H3 ms3 b b' B3 o3 => ?_
      obtain rfl : b' = b := B3.r
      cases b' with
      | false => exact o3 σ2 ι3 H3 B3.rel .refl B3.env
      | true =>
        refine ⟨fun σ H => ∃ ι' env' ms', Rel X.K ι' H ms' ∧ EnvOk X.K ι' H env' σ ∧ OutS X.K E ι' H (whileLoop t B m env' ms') D, fun σ' H' h => ⟨m, Nat.lt_succ_self m, h⟩, ι3, env2, ms3, B3.rel, B3.env, ?_⟩
        simp only [if_true] at o3
        cases q5 : B env2 ms3 with
        | bad => simp only [q5] at o3; exact o3
        | exc x ms5 => simp only [q5] at o3; exact o3
        | ok a ms5 =>
          simp only [q5, bind_ok] at o3
          obtain ⟨fl, env5⟩ := a
          cases fl with
          | nx => exact fun σ5 ι5 H5 R5 l5 ev5 => ⟨ι5, env5, ms5, R5, ev5, OutS.from l5 o3⟩
          | cont => exact fun σ5 ι5 H5 R5 l5 ev5 => ⟨ι5, env5, ms5, R5, ev5, OutS.from l5 o3⟩
          | brk => exact o3
          | ret d => exact o3
end
end DL

set_option maxHeartbeats 1000000
namespace DL
open PySem PySem.Spec L2
open PyProof.Rows hiding St

/-! ### comprehensions -/
@[simp] def noExc {α : Type} (r : Res α) : Res α := match r with
  | .exc _ _ => .bad
  | r => r
abbrev E00 : EW := fun _ _ _ => False
def compLoop (nx : Nat → MS → WOut) (step : D → MS → Res (Option D)) : Nat → Nat → List D → MS → Res (List D)
  | 0, _, _, _ => .bad
  | n + 1, i, acc, ms => match nx i ms with
    | .bad => .bad
    | .stop => .ok acc ms
    | .item d => (step d ms).bind fun o ms1 => match o with
      | none => compLoop nx step n (i + 1) acc ms1
      | some y => if acc.length < LIM then compLoop nx step n (i + 1) (acc ++ [y]) ms1 else .bad
@[simp] def wipeE (env : Env) : List Nat → Env
  | [] => env
  | v :: vs => (wipeE env vs).set v none
@[simp] def yesT (_ : Env) (ms : MS) : Res Bool := .ok true ms
@[simp] def stepOf (T : TF) (t : Env → MS → Res Bool) (f : Env → MS → Res D) (env : Env) : D → MS → Res (Option D) := fun d ms =>
  noExc ((T d env ms).bind fun env1 ms1 => (t env1 ms1).bind fun b ms2 => if b = true then (f env1 ms2).bind fun y ms3 => .ok (some y) ms3 else .ok none ms2)
@[simp] def compE (mk : List D → MS → Res D) (g : Env → MS → Res Src) (T : TF) (t : Env → MS → Res Bool) (f : Env → MS → Res D) (vs : List Nat) (env : Env) (ms : MS) : Res D :=
  (g env ms).bind fun s ms1 => (noExc (compLoop s.nx (stepOf T t f (wipeE env vs)) s.n 0 [] ms1)).bind fun acc ms2 => mk acc ms2
/-- the ends of a comprehension -/
@[simp] def endL (acc : List D) (ms : MS) : Res D := .ok (.lst acc) ms
@[simp] def endM (acc : List D) (ms : MS) : Res D := .ok (.ptr ms.length) (ms ++ [.lst acc])
section
variable {K : PySem.W.Frag} {E : EW} {ι ι' ι2 : Ct} {H H' H2 : Hp} {ms : MS} {D0 : Addr}
theorem EnvOk.wipe {env : Env} {σ : St} (h : EnvOk K ι H env σ) : ∀ vs : List Nat, EnvOk K ι H (wipeE env vs) (L2.wipe σ vs)
  | [] => h
  | v :: vs => by
    have ih := EnvOk.wipe h vs
    refine ⟨by show ((L2.wipe σ vs).set v none).length = ((wipeE env vs).set v none).length; rw [List.length_set, List.length_set]; exact ih.1, fun i d e => ?_⟩
    have e' : ((wipeE env vs).set v none)[i]? = some (some d) := e
    by_cases hi : v = i
    · subst hi
      by_cases hv : v < (wipeE env vs).length
      · rw [List.getElem?_set_self hv] at e'; cases e'
      · rw [List.getElem?_eq_none (by simpa using hv)] at e'; cases e'
    · rw [List.getElem?_set_ne hi] at e'
      obtain ⟨x, e1, e2⟩ := ih.2 i d e'
      refine ⟨x, ?_, e2⟩
      show ((L2.wipe σ vs).set v none)[i]? = _
      rw [List.getElem?_set_ne hi]
      exact e1
/-- a place is taken for a list that is being made -/
theorem Rel.banned (R : Rel K ι H ms) (hp : H D0 = none) : Rel K (ι.ban D0) (upd H D0 (.lst [])) ms := by
  have hno := R.fresh hp
  have ne : ∀ q o, H q = some o → q ≠ D0 := fun q o e => ne_of_none e hp
  have bn : ∀ d v, Rp K ι H d v → Rp K (ι.ban D0) (upd H D0 (.lst [])) d v := Rp.ban (p := D0) (fun q xs e n => ⟨by rw [upd_ne (ne q _ e)]; exact e, Ct.ban_no.mpr ⟨n, ne q _ e⟩⟩) (fun q xs e => by rw [upd_ne (ne q _ e)]; exact e) (fun q o u e => by rw [upd_ne (ne q _ e)]; exact e) (fun _ _ h => h)
  have bns : ∀ d v, Rps K ι H d v → Rps K (ι.ban D0) (upd H D0 (.lst [])) d v := Rps.ban (p := D0) (fun q xs e n => ⟨by rw [upd_ne (ne q _ e)]; exact e, Ct.ban_no.mpr ⟨n, ne q _ e⟩⟩) (fun q xs e => by rw [upd_ne (ne q _ e)]; exact e) (fun q o u e => by rw [upd_ne (ne q _ e)]; exact e) (fun _ _ h => h)
  refine ⟨R.len, R.nd, fun n p c h1 h2 => ?_, fun q hq => ?_⟩
  · have hc := R.ok n p c h1 h2
    have hn : p ≠ D0 := fun e => hc.there.1 (e ▸ hp)
    cases c with
    | lst ds => obtain ⟨xs, a, b⟩ := hc; exact ⟨xs, by rw [upd_ne hn]; exact a, bns _ _ b⟩
    | obj nm fs => obtain ⟨C, dx, vs, a0, a, b, c⟩ := hc; exact ⟨C, dx, vs, a0, by rw [upd_ne hn]; exact a, b, bns _ _ c⟩
    | dK fs => obtain ⟨vs, a, b, c⟩ := hc; exact ⟨vs, by rw [upd_ne hn]; exact a, b, bns _ _ c⟩
    | dT fs => obtain ⟨vs, a, b, c⟩ := hc; exact ⟨vs, by rw [upd_ne hn]; exact a, b, bns _ _ c⟩
    | exn nm y => obtain ⟨oe, C, a0, a, b, c, d⟩ := hc; exact ⟨oe, C, a0, by rw [upd_ne hn]; exact a, b, c, d.imp fun q o u e => by rw [upd_ne (ne q _ e)]; exact e⟩
  · rcases List.mem_cons.mp hq with e | hq
    · rw [e]; exact ⟨hno.1, _, upd_same⟩
    · obtain ⟨a, xs, e⟩ := R.fb q hq
      exact ⟨a, xs, by rw [upd_ne (ne q _ e)]; exact e⟩
theorem Rps.banned (R : Rel K ι H ms) (hp : H D0 = none) {ds : List D} {vs : List V} (r : Rps K ι H ds vs) : Rps K (ι.ban D0) (upd H D0 (.lst [])) ds vs := by
  have ne : ∀ q o, H q = some o → q ≠ D0 := fun q o e => ne_of_none e hp
  exact Rps.ban (p := D0) (fun q xs e n => ⟨by rw [upd_ne (ne q _ e)]; exact e, Ct.ban_no.mpr ⟨n, ne q _ e⟩⟩) (fun q xs e => by rw [upd_ne (ne q _ e)]; exact e) (fun q o u e => by rw [upd_ne (ne q _ e)]; exact e) (fun _ _ h => h) ds vs r
theorem EnvOk.banned (R : Rel K ι H ms) (hp : H D0 = none) {env : Env} {σ : St} (ev : EnvOk K ι H env σ) : EnvOk K (ι.ban D0) (upd H D0 (.lst [])) env σ := by
  have ne : ∀ q o, H q = some o → q ≠ D0 := fun q o e => ne_of_none e hp
  exact ⟨ev.1, fun i d e => let ⟨v, a, b⟩ := ev.2 i d e; ⟨v, a, Rp.ban (p := D0) (fun q xs e n => ⟨by rw [upd_ne (ne q _ e)]; exact e, Ct.ban_no.mpr ⟨n, ne q _ e⟩⟩) (fun q xs e => by rw [upd_ne (ne q _ e)]; exact e) (fun q o u e => by rw [upd_ne (ne q _ e)]; exact e) (fun _ _ h => h) d v b⟩⟩
/-- the list at a banned place becomes another one -/
theorem put_l {xs ys : List V} (R : Rel K (ι.ban D0) H ms) : (∀ q zs, H q = some (.lst zs) → (ι.ban D0).no q → upd H D0 (.lst ys) q = some (.lst zs) ∧ (ι.ban D0).no q) ∧ (∀ q zs, H q = some (.tup zs) → upd H D0 (.lst ys) q = some (.tup zs)) ∧ (∀ q o u, H q = some (.frz o u) → upd H D0 (.lst ys) q = some (.frz o u)) := by
  obtain ⟨hn, zs, e⟩ := R.fb D0 (List.mem_cons_self ..)
  refine ⟨fun q ws e2 n => ⟨by rw [upd_ne (Ct.ban_no.mp n).2]; exact e2, n⟩, fun q ws e2 => ?_, fun q o u e2 => ?_⟩
  · rw [upd_ne]
    · exact e2
    · rintro rfl
      rw [e] at e2
      cases e2
  · rw [upd_ne]
    · exact e2
    · rintro rfl
      rw [e] at e2
      cases e2
theorem Rel.put {ys : List V} (R : Rel K (ι.ban D0) H ms) : Rel K (ι.ban D0) (upd H D0 (.lst ys)) ms := by
  obtain ⟨l, t, z⟩ := put_l (xs := []) (ys := ys) R
  obtain ⟨hn, zs, e⟩ := R.fb D0 (List.mem_cons_self ..)
  refine ⟨R.len, R.nd, fun n p c h1 h2 => ?_, fun q hq => ⟨(R.fb q hq).1, ?_⟩⟩
  · have hc := R.ok n p c h1 h2
    have hn : p ≠ D0 := fun e => hn (e ▸ List.mem_of_getElem? h1)
    have bns := Rps.ban (K := K) (p := D0) l t z (fun _ _ h => h)
    cases c with
    | lst ds => obtain ⟨xs, a, b⟩ := hc; exact ⟨xs, by rw [upd_ne hn]; exact a, bns _ _ b⟩
    | obj nm fs => obtain ⟨C, dx, vs, a0, a, b, c⟩ := hc; exact ⟨C, dx, vs, a0, by rw [upd_ne hn]; exact a, b, bns _ _ c⟩
    | dK fs => obtain ⟨vs, a, b, c⟩ := hc; exact ⟨vs, by rw [upd_ne hn]; exact a, b, bns _ _ c⟩
    | dT fs => obtain ⟨vs, a, b, c⟩ := hc; exact ⟨vs, by rw [upd_ne hn]; exact a, b, bns _ _ c⟩
    | exn nm y => obtain ⟨oe, C, a0, a, b, c, d⟩ := hc; exact ⟨oe, C, a0, by rw [upd_ne hn]; exact a, b, c, d.imp z⟩
  · by_cases hq2 : q = D0
    · exact ⟨ys, by rw [hq2, upd_same]⟩
    · obtain ⟨_, xs, e⟩ := R.fb q hq
      exact ⟨xs, by rw [upd_ne hq2]; exact e⟩
theorem Rps.put {ys : List V} (R : Rel K (ι.ban D0) H ms) {ds : List D} {vs : List V} (r : Rps K (ι.ban D0) H ds vs) : Rps K (ι.ban D0) (upd H D0 (.lst ys)) ds vs := by
  obtain ⟨l, t, z⟩ := put_l (xs := []) (ys := ys) R
  exact Rps.ban (p := D0) l t z (fun _ _ h => h) _ _ r
theorem EnvOk.put {ys : List V} (R : Rel K (ι.ban D0) H ms) {env : Env} {σ : St} (ev : EnvOk K (ι.ban D0) H env σ) : EnvOk K (ι.ban D0) (upd H D0 (.lst ys)) env σ := by
  obtain ⟨l, t, z⟩ := put_l (xs := []) (ys := ys) R
  exact ⟨ev.1, fun i d e => let ⟨v, a, b⟩ := ev.2 i d e; ⟨v, a, Rp.ban (p := D0) l t z (fun _ _ h => h) d v b⟩⟩
/-- what a banned state grows to -/
theorem ban_form (l : Le (ι.ban D0) H ι2 H2) : ι2 = (⟨ι2.a, ι.f⟩ : Ct).ban D0 := by
  obtain ⟨a, f⟩ := ι2
  have e : f = D0 :: ι.f := l.same
  rw [e]
  rfl
/-- from ahead of the list's making, over a state that grew within -/
theorem Le.within {H0 : Hp} {ι0 : Ct} (h0 : H0 D0 = none) (a : Le ι0 H0 ι H) (b : Le (ι.ban D0) H (ι'.ban D0) H') (hf : ι'.f = ι.f) : Le ι0 H0 ι' H' := by
  have ne : ∀ q o, H0 q = some o → q ≠ D0 := fun q o e => ne_of_none e h0
  obtain ⟨e1, h1⟩ := a.pre
  obtain ⟨e2, h2⟩ := b.pre
  refine ⟨⟨e1 ++ e2, ?_⟩, hf.trans a.same, fun p xs h => b.tup p xs (a.tup p xs h), fun p o u h => b.frz p o u (a.frz p o u h), fun p xs h n => ?_, fun p hp => ?_⟩
  · have : ι'.a = ι.a ++ e2 := h2
    rw [this, h1, List.append_assoc]
  · obtain ⟨c, d⟩ := a.lst p xs h n
    obtain ⟨c2, d2⟩ := b.lst p xs c (Ct.ban_no.mpr ⟨d, ne p _ h⟩)
    exact ⟨c2, (Ct.ban_no.mp d2).1⟩
  · exact (b.keep p (List.mem_cons_of_mem _ (by rw [a.same]; exact hp))).trans (a.keep p hp)
theorem Le.put {H0 : Hp} {ι0 : Ct} {ys : List V} {ms0 : MS} (R0 : Rel K ι0 H0 ms0) (h0 : H0 D0 = none) (a : Le ι0 H0 ι H) : Le ι0 H0 ι (upd H D0 (.lst ys)) := by
  have ne : ∀ q o, H0 q = some o → q ≠ D0 := fun q o e => ne_of_none e h0
  exact ⟨a.pre, a.same, fun p xs h => by rw [upd_ne (ne p _ h)]; exact a.tup p xs h, fun p o u h => by rw [upd_ne (ne p _ h)]; exact a.frz p o u h, fun p xs h n => ⟨by rw [upd_ne (ne p _ h)]; exact (a.lst p xs h n).1, (a.lst p xs h n).2⟩,
    fun p hp => by
      obtain ⟨_, xs, e⟩ := R0.fb p hp
      rw [upd_ne (ne p _ e)]
      exact a.keep p hp⟩
/-- the list is made: it is data, or a cell -/
theorem Rel.done (R : Rel K (ι.ban D0) H ms) : Rel K ι H ms := by
  refine ⟨R.len, R.nd, fun n p c h1 h2 => ?_, fun q hq => R.fb q (List.mem_cons_of_mem _ hq)⟩
  have hc := R.ok n p c h1 h2
  have bns := Rps.ban (K := K) (ι := ι.ban D0) (ι' := ι) (H := H) (H' := H) (p := D0) (fun q xs e n => ⟨e, (Ct.ban_no.mp n).1⟩) (fun _ _ e => e) (fun _ _ _ e => e) (fun _ _ h => h)
  cases c with
  | lst ds => obtain ⟨xs, a, b⟩ := hc; exact ⟨xs, a, bns _ _ b⟩
  | obj nm fs => obtain ⟨C, dx, vs, a0, a, b, c⟩ := hc; exact ⟨C, dx, vs, a0, a, b, bns _ _ c⟩
  | dK fs => obtain ⟨vs, a, b, c⟩ := hc; exact ⟨vs, a, b, bns _ _ c⟩
  | dT fs => obtain ⟨vs, a, b, c⟩ := hc; exact ⟨vs, a, b, bns _ _ c⟩
  | exn nm y => exact hc
theorem Rps.done {ds : List D} {vs : List V} (r : Rps K (ι.ban D0) H ds vs) : Rps K ι H ds vs :=
  Rps.ban (K := K) (ι := ι.ban D0) (ι' := ι) (H := H) (H' := H) (p := D0) (fun q xs e n => ⟨e, (Ct.ban_no.mp n).1⟩) (fun _ _ e => e) (fun _ _ _ e => e) (fun _ _ h => h) _ _ r
theorem Rps.doneM {ds : List D} {vs : List V} (r : Rps K (ι.ban D0) H ds vs) : Rps K (ι.push D0) H ds vs :=
  Rps.ban (K := K) (ι := ι.ban D0) (ι' := ι.push D0) (H := H) (H' := H) (p := D0) (fun q xs e n => ⟨e, fun hm => (by
    rcases List.mem_append.mp hm with z | z
    · exact (Ct.ban_no.mp n).1.1 z
    · exact (Ct.ban_no.mp n).2 (by simpa using z)), (Ct.ban_no.mp n).1.2⟩) (fun _ _ e => e) (fun _ _ _ e => e) (fun n q h => by
      show (ι.a ++ [D0])[n]? = some q
      have h' : ι.a[n]? = some q := h
      rw [List.getElem?_append_left (List.getElem?_eq_some_iff.mp h').1]
      exact h') _ _ r
theorem Rel.doneM {ds : List D} {xs : List V} (R : Rel K (ι.ban D0) H ms) (hf : D0 ∉ ι.f) (hD : H D0 = some (.lst xs)) (r : Rps K (ι.ban D0) H ds xs) : Rel K (ι.push D0) H (ms ++ [.lst ds]) := by
  have hn : D0 ∉ ι.a := (R.fb D0 (List.mem_cons_self ..)).1
  refine ⟨?_, ?_, fun n p c h1 h2 => ?_, fun q hq => ⟨fun hm => ?_, (R.fb q (List.mem_cons_of_mem _ hq)).2⟩⟩
  · show (ι.a ++ [D0]).length = _
    rw [List.length_append, List.length_append]
    exact congrArg (· + 1) R.len
  · show (ι.a ++ [D0]).Nodup
    rw [List.nodup_append]
    refine ⟨R.nd, by simp, fun a ha b hb e => ?_⟩
    have : b = D0 := by simpa using hb
    subst this
    subst e
    exact hn ha
  · have h1' : (ι.a ++ [D0])[n]? = some p := h1
    have hl : ι.a.length = ms.length := R.len
    by_cases hlt : n < ι.a.length
    · rw [List.getElem?_append_left hlt] at h1'
      rw [List.getElem?_append_left (by omega)] at h2
      have hc := R.ok n p c h1' h2
      cases c with
      | lst ds => obtain ⟨xs, a, b⟩ := hc; exact ⟨xs, a, Rps.doneM b⟩
      | obj nm fs => obtain ⟨C, dx, vs, a0, a, b, c⟩ := hc; exact ⟨C, dx, vs, a0, a, b, Rps.doneM c⟩
      | dK fs => obtain ⟨vs, a, b, c⟩ := hc; exact ⟨vs, a, b, Rps.doneM c⟩
      | dT fs => obtain ⟨vs, a, b, c⟩ := hc; exact ⟨vs, a, b, Rps.doneM c⟩
      | exn nm y => exact hc
    · rw [List.getElem?_append_right (by omega)] at h1'
      rw [List.getElem?_append_right (by omega), ← hl] at h2
      have hz : n - ι.a.length = 0 := by
        have := (List.getElem?_eq_some_iff.mp h1').1
        simp only [List.length_cons, List.length_nil] at this
        omega
      rw [hz] at h1' h2
      simp at h1' h2
      subst h1'
      subst h2
      exact ⟨xs, hD, Rps.doneM r⟩
  · rcases List.mem_append.mp hm with z | z
    · exact (R.fb q (List.mem_cons_of_mem _ hq)).1 z
    · exact hf (by
        have e : q = D0 := by simpa using z
        exact e ▸ hq)
theorem Le.doneM {H0 : Hp} {ι0 : Ct} (h0 : H0 D0 = none) (a : Le ι0 H0 ι H) : Le ι0 H0 (ι.push D0) H := by
  obtain ⟨e1, h1⟩ := a.pre
  refine ⟨⟨e1 ++ [D0], by show ι.a ++ [D0] = _; rw [h1, List.append_assoc]⟩, a.same, a.tup, a.frz, fun p xs h n => ⟨(a.lst p xs h n).1, fun hm => ?_, (a.lst p xs h n).2.2⟩, a.keep⟩
  rcases List.mem_append.mp hm with z | z
  · exact (a.lst p xs h n).2.1 z
  · exact ne_of_none h h0 (by simpa using z)
/-- what the end of a comprehension gives -/
def EndOk (mk : List D → MS → Res D) : Prop := ∀ (K : PySem.W.Frag) (E : EW) (ι0 ι : Ct) (H0 H : Hp) (ms : MS) (D0 : Addr) (ds : List D) (xs : List V) (Q : VK), Rel K (ι.ban D0) H ms → D0 ∉ ι.f → H0 D0 = none → Le ι0 H0 ι H → H D0 = some (.lst xs) → Rps K (ι.ban D0) H ds xs → Out K E (Rp K) ι0 H0 (mk ds ms) Q → Q (.ref D0) H
theorem endL_ok : EndOk endL := fun K E ι0 ι H0 H ms D0 ds xs Q R hf h0 l hD r o => o _ ι H R.done l ⟨D0, xs, rfl, hD, ⟨(R.fb D0 (List.mem_cons_self ..)).1, hf⟩, Rps.done r⟩
theorem endM_ok : EndOk endM := fun K E ι0 ι H0 H ms D0 ds xs Q R hf h0 l hD r o => o _ (ι.push D0) H (R.doneM hf hD r) (Le.doneM h0 l) ⟨D0, rfl, by
  show (ι.a ++ [D0])[ms.length]? = some D0
  have hl : ι.a.length = ms.length := R.len
  rw [← hl, List.getElem?_append_right (Nat.le_refl _)]
  simp⟩
end
theorem wipe_get {σ : St} {j : Nat} : ∀ vs : List Nat, (L2.wipe σ vs)[j]? = if j ∈ vs then (if j < σ.length then some none else none) else σ[j]?
  | [] => by rw [if_neg (by simp)]; rfl
  | v :: vs => by
    show ((L2.wipe σ vs).set v none)[j]? = _
    by_cases h : v = j
    · subst h
      rw [if_pos (List.mem_cons_self ..)]
      by_cases hl : v < σ.length
      · rw [if_pos hl, List.getElem?_set_self (by rw [wipe_length]; exact hl)]
      · rw [if_neg hl, List.getElem?_eq_none (by rw [List.length_set, wipe_length]; omega)]
    · rw [List.getElem?_set_ne h, wipe_get vs]
      have e : (j ∈ v :: vs) ↔ j ∈ vs := by
        rw [List.mem_cons]
        exact ⟨fun q => q.resolve_left (fun z => h z.symm), .inr⟩
      simp only [e]
theorem wipe_set {σ : St} {i : Nat} {a : Option V} {vs : List Nat} (h : i ∈ vs) : L2.wipe (σ.set i a) vs = L2.wipe σ vs := by
  apply List.ext_getElem?
  intro j
  rw [wipe_get, wipe_get, List.length_set]
  by_cases hj : j ∈ vs
  · rw [if_pos hj, if_pos hj]
  · rw [if_neg hj, if_neg hj, List.getElem?_set_ne (fun (e : i = j) => hj (e ▸ h))]
theorem wipe_wipe {σ : St} {vs : List Nat} : L2.wipe (L2.wipe σ vs) vs = L2.wipe σ vs := by
  apply List.ext_getElem?
  intro j
  rw [wipe_get, wipe_length, wipe_get]
  by_cases hj : j ∈ vs
  · rw [if_pos hj, if_pos hj]
  · rw [if_neg hj]
/-- a target that stores into the slots vs alone -/
def TOk (K : PySem.W.Frag) (E : EW) (vs : List Nat) (g : TG) (T : TF) : Prop := ∀ v σ σ0 H Q, L2.wipe σ vs = L2.wipe σ0 vs → tG K E T v σ H Q → g v σ H fun σ2 H2 => L2.wipe σ2 vs = L2.wipe σ0 vs ∧ Q σ2 H2
def TsOk (K : PySem.W.Frag) (E : EW) (vs : List Nat) (g : TGs) (T : List D → Env → MS → Res Env) : Prop := ∀ v σ σ0 H Q, L2.wipe σ vs = L2.wipe σ0 vs → tGs K E T v σ H Q → g v σ H fun σ2 H2 => L2.wipe σ2 vs = L2.wipe σ0 vs ∧ Q σ2 H2
section
variable {K : PySem.W.Frag} {E : EW} {vs : List Nat}
theorem k_name {i : Nat} (h : i ∈ vs) : TOk K E vs (gName i) (nameT i) := fun v σ σ0 H Q e ⟨ι, env, ms, d, r, ev, rd, o⟩ => ⟨(wipe_set h).trans e, o _ ι H r .refl (ev.set rd i)⟩
theorem k_nil : TsOk K E vs gNil nilT := fun v σ σ0 H Q e ⟨ι, env, ms, ds, r, ev, rd, o⟩ => by
  cases ds with
  | nil => cases rd; exact ⟨rfl, e, o σ ι H r .refl ev⟩
  | cons d ds => exact o.elim
theorem k_cons {i : Nat} {u : TGs} {Ts : List D → Env → MS → Res Env} (h : i ∈ vs) (hs : TsOk K E vs u Ts) : TsOk K E vs (gCons (gName i) u) (consT (nameT i) Ts) := fun v σ σ0 H Q e ⟨ι, env, ms, ds, r, ev, rd, o⟩ => by
  cases ds with
  | nil => exact o.elim
  | cons d ds =>
    obtain ⟨x, xr, rfl, h1, h2⟩ := rd
    exact ⟨x, xr, rfl, hs xr _ σ0 H Q ((wipe_set h).trans e) ⟨ι, env.set i (some d), ms, ds, r, ev.set h1 i, h2, o⟩⟩
theorem k_tup {n : Nat} {u : TGs} {Ts : List D → Env → MS → Res Env} (hs : TsOk K E vs u Ts) : TOk K E vs (gTup K n u) (tupT n Ts) := fun v σ σ0 H Q e ⟨ι, env, ms, d, r, ev, rd, o⟩ => by
  cases d with
  | tup ds =>
    obtain ⟨p, xs, rfl, hq, rs⟩ := rd
    have o' : OutT K E ι H (if ds.length = n then Ts ds env ms else .bad) Q := o
    by_cases h : ds.length = n
    · rw [if_pos h] at o'
      exact ⟨p, xs, rfl, hq, by rw [rs.length]; exact h, hs xs σ σ0 H Q e ⟨ι, env, ms, ds, r, ev, rs, o'⟩⟩
    · rw [if_neg h] at o'; exact o'.elim
  | _ => exact o.elim
end
theorem PTs.conv {X : Cx} {ifs : List Expr} {t t' : TT} (h : PTs X ifs t) (c : ∀ σ H Q, t' σ H Q → t σ H Q) : PTs X ifs t' := ⟨fun pins s σ H Q I q => h.run pins s σ H Q I (c σ H Q q)⟩
theorem ts_nil {X : Cx} {E : EW} : PTs X [] (tT X.K E yesT) := PTs.conv pts_nil fun σ H Q ⟨ι, env, ms, r, ev, o⟩ => o true ι H r .refl rfl
theorem ts_one {X : Cx} {E : EW} {c : Expr} {t : Env → MS → Res Bool} (h : DT X E c t) : PTs X [c] (tT X.K E t) := pts_one h

section
variable {X : Cx} {E : EW}
theorem comp_read {mk : List D → MS → Res D} (hmk : EndOk mk) {K : PySem.W.Frag} {g : Env → MS → Res Src} {gg : TG} {T : TF} {t : Env → MS → Res Bool} {f : Env → MS → Res D} {vs : List Nat} (tk : TOk K E00 vs gg T)
    {σ : St} {H : Hp} {Q : VK} (h : tD K E (compE mk g T t f vs) σ H Q) : tLc (tI K E g) gg (tT K E00 t) (tD K E00 f) vs σ H Q := by
  obtain ⟨ι, env, ms, r, ev, o⟩ := h
  refine ⟨ι, env, ms, r, ev, ?_⟩
  unfold compE at o
  cases q : g env ms with
  | bad => rw [q] at o; exact o
  | exc x ms1 => rw [q] at o; exact o
  | ok s ms1 =>
    simp only [q, bind_ok] at o
    intro J ι1 H1 us R1 l1 rs jok D0 h0
    have o := Out.from l1 o
    have hfr := R1.fresh h0
    refine ⟨fun i m H2 => ∃ ι2 ms2 acc xs, Rel K (ι2.ban D0) H2 ms2 ∧ EnvOk K (ι2.ban D0) H2 env σ ∧ Rps K (ι2.ban D0) H2 s.ds us ∧ Rps K (ι2.ban D0) H2 acc xs ∧ H2 D0 = some (.lst xs) ∧ ι2.f = ι1.f ∧ Le ι1 H1 ι2 H2 ∧ Out K E (Rp K) ι1 H1 ((noExc (compLoop s.nx (stepOf T t f (wipeE env vs)) m i acc ms2)).bind fun acc ms2 => mk acc ms2) Q,
      ⟨s.n, ι1, ms1, [], [], R1.banned h0, EnvOk.banned R1 h0 (ev.mono l1), Rps.banned R1 h0 rs, rfl, upd_same, rfl, Le.new R1 h0, o⟩, ?_⟩
    rintro i m H2 ⟨ι2, ms2, acc, xs, R2, ev2, rs2, ra2, hD2, hf2, l2, o2⟩
    cases m with
    | zero => exact o2.elim
    | succ m =>
      have js := jok (ι2.ban D0) H2 ms2 i R2 rs2
      unfold compLoop at o2
      cases w : s.nx i ms2 with
      | bad => simp only [w] at o2; exact o2.elim
      | stop =>
        simp only [w] at o2
        rw [w] at js
        exact .inl ⟨js, hmk K E ι1 ι2 H1 H2 ms2 D0 acc xs Q R2 (by rw [hf2]; exact hfr.2) h0 l2 hD2 ra2 o2⟩
      | item d =>
        simp only [w] at o2
        rw [w] at js
        refine .inr ⟨js.1, fun H2 => ∃ ι2 ms2 acc xs, Rel K (ι2.ban D0) H2 ms2 ∧ EnvOk K (ι2.ban D0) H2 env σ ∧ Rps K (ι2.ban D0) H2 s.ds us ∧ Rps K (ι2.ban D0) H2 acc xs ∧ H2 D0 = some (.lst xs) ∧ ι2.f = ι1.f ∧ Le ι1 H1 ι2 H2 ∧ Out K E (Rp K) ι1 H1 ((noExc (compLoop s.nx (stepOf T t f (wipeE env vs)) m (i + 1) acc ms2)).bind fun acc ms2 => mk acc ms2) Q,
          fun H' h => ⟨m, Nat.lt_succ_self m, h⟩, fun x H' hy => ?_⟩
        obtain ⟨R3, l3, rd⟩ := js.2 x H' hy
        -- what stands wherever the turn has come to
        have grown : ∀ {ι5 : Ct} {H5 : Hp} {ms5 : MS}, Rel K ι5 H5 ms5 → Le (ι2.ban D0) H2 ι5 H5 → ∃ ι6, ι5 = ι6.ban D0 ∧ ι6.f = ι1.f ∧ Le ι1 H1 ι6 H5 ∧ H5 D0 = some (.lst xs) := fun {ι5 H5 ms5} R5 l5 => by
          have e := ban_form l5
          refine ⟨⟨ι5.a, ι2.f⟩, e, hf2, Le.within (ι' := ⟨ι5.a, ι2.f⟩) h0 l2 (by rw [← e]; exact l5) rfl, ?_⟩
          rw [l5.keep D0 (List.mem_cons_self ..)]
          exact hD2
        unfold stepOf at o2
        refine tk x (L2.wipe σ vs) σ H' _ wipe_wipe ⟨ι2.ban D0, wipeE env vs, ms2, d, R3, (ev2.wipe vs).mono l3, rd, ?_⟩
        cases q3 : T d (wipeE env vs) ms2 with
        | bad => simp only [q3] at o2; exact o2.elim
        | exc x ms3 => simp only [q3] at o2; exact o2.elim
        | ok env3 ms3 =>
          simp only [q3, bind_ok] at o2
          intro σ3 ι3 H3 R3' l3' ev3
          refine ⟨ι3, env3, ms3, R3', ev3, ?_⟩
          cases q4 : t env3 ms3 with
          | bad => simp only [q4] at o2; exact o2.elim
          | exc x ms4 => simp only [q4] at o2; exact o2.elim
          | ok b ms4 =>
            simp only [q4, bind_ok] at o2
            intro b' ι4 H4 R4 l4 eb
            obtain rfl : b' = b := eb
            have l24 := (l3.trans l3').trans l4
            cases b' with
            | false =>
              simp only [Bool.false_eq_true, if_false] at o2 ⊢
              obtain ⟨ι6, e6, f6, le6, hD6⟩ := grown R4 l24
              rw [e6] at R4 l24
              exact ⟨ι6, ms4, acc, xs, R4, ev2.mono l24, Rps.mono l24 _ _ rs2, Rps.mono l24 _ _ ra2, hD6, f6, le6, o2⟩
            | true =>
              simp only [if_true] at o2 ⊢
              refine ⟨ι4, env3, ms4, R4, ev3.mono l4, ?_⟩
              cases q5 : f env3 ms4 with
              | bad => simp only [q5] at o2; exact o2.elim
              | exc x ms5 => simp only [q5] at o2; exact o2.elim
              | ok y ms5 =>
                simp only [q5, bind_ok] at o2
                intro yv ι5 H5 R5 l5 ry
                have l25 := l24.trans l5
                obtain ⟨ι6, e6, f6, le6, hD6⟩ := grown R5 l25
                rw [e6] at R5 l25 ry
                have o3 : Out K E (Rp K) ι1 H1 ((noExc (if acc.length < LIM then compLoop s.nx (stepOf T t f (wipeE env vs)) m (i + 1) (acc ++ [y]) ms5 else .bad)).bind fun acc ms2 => mk acc ms2) Q := o2
                by_cases hl : acc.length < LIM
                · rw [if_pos hl] at o3
                  have rx := Rps.mono l25 _ _ ra2
                  exact ⟨xs, hD6, by rw [rx.length, ← lim_eq]; exact hl, ι6, ms5, acc ++ [y], xs ++ [yv], R5.put, EnvOk.put R5 (ev2.mono l25), Rps.put R5 (Rps.mono l25 _ _ rs2), Rps.put R5 (rx.append (Rps.mk1 ry)), upd_same, f6, Le.put R1 h0 le6, o3⟩
                · rw [if_neg hl] at o3; exact o3.elim
theorem d_comp {mk : List D → MS → Res D} (hmk : EndOk mk) {elt tg iter : Expr} {ifs : List Expr} {scope : Scope} {own : List (Str × Nat)} {pos : Pos} {g : Env → MS → Res Src} {gg : TG} {T : TF} {t : Env → MS → Res Bool} {f : Env → MS → Res D}
    (hc : X.calm = true) (hN : X.N.Nodup) (hi : DI X E tg iter g) (ok : BlkOk X.N X.env.scope scope own)
    (hg : ∀ (s : Shared) (H : Hp) (C : Addr) (cl : List (Str × Addr)) (fp : List Addr), PG (X.blk s H scope (compEnvC scope cl C X.env) fp) tg gg) (tk : TOk X.K E00 (own.map (·.2)) gg T)
    (ht : ∀ (s : Shared) (H : Hp) (C : Addr) (cl : List (Str × Addr)) (fp : List Addr), PTs (X.blk s H scope (compEnvC scope cl C X.env) fp) ifs (tT X.K E00 t))
    (he : ∀ (s : Shared) (H : Hp) (C : Addr) (cl : List (Str × Addr)) (fp : List Addr), PE (X.blk s H scope (compEnvC scope cl C X.env) fp) elt (tD X.K E00 f)) (hs : ∀ x, foldedSetIterable iter X.env x = pure x := by intro _; rfl) :
    DE X E (.ListComp elt [⟨tg, iter, ifs, 0⟩] scope pos) (compE mk g T t f (own.map (·.2))) :=
  PE.conv (pe_lc hc hN hi ok hg ht he hs) fun _ _ _ h => comp_read hmk tk h
theorem s_setComp {mk : List D → MS → Res D} (hmk : EndOk mk) {i : Nat} {y : Str} {py spos : Pos} {elt tg iter : Expr} {ifs : List Expr} {scope : Scope} {own : List (Str × Nat)} {pos : Pos} {g : Env → MS → Res Src} {gg : TG} {T : TF} {t : Env → MS → Res Bool} {f : Env → MS → Res D}
    (hc : X.calm = true) (hN : X.N.Nodup) (hy : X.N[i]? = some y) (hyl : X.env.scope.names.lookup y = some .local)
    (hsw : swapsWith (.ListComp elt [⟨tg, iter, ifs, 0⟩] scope pos) (some (.Name y py)) spos.line X.env = pure true) (hi : DI X E tg iter g) (ok : BlkOk X.N X.env.scope scope own)
    (hg : ∀ (s : Shared) (H : Hp) (C : Addr) (cl : List (Str × Addr)) (fp : List Addr), PG (X.blk s H scope (compEnvC scope cl C X.env) fp) tg gg) (tk : TOk X.K E00 (own.map (·.2)) gg T)
    (ht : ∀ (s : Shared) (H : Hp) (C : Addr) (cl : List (Str × Addr)) (fp : List Addr), PTs (X.blk s H scope (compEnvC scope cl C X.env) fp) ifs (tT X.K E00 t))
    (he : ∀ (s : Shared) (H : Hp) (C : Addr) (cl : List (Str × Addr)) (fp : List Addr), PE (X.blk s H scope (compEnvC scope cl C X.env) fp) elt (tD X.K E00 f)) (hs : ∀ x, foldedSetIterable iter X.env x = pure x := by intro _; rfl) :
    DS X E (.Assign [.Name y py] (.ListComp elt [⟨tg, iter, ifs, 0⟩] scope pos) spos) (setS i (compE mk g T t f (own.map (·.2)))) :=
  PS.conv (ps_setLc hc hN hy hyl hsw hi ok hg ht he hs) fun σ H D ⟨ι, env, ms, r, ev, o⟩ => comp_read hmk tk (Q := fun x H1 => gName i x σ H1 D.nx) (by
    have z : tR X.K E (Rp X.K) (compE mk g T t f (own.map (·.2))) σ H (fun x H1 => gName i x σ H1 D.nx) := tR_seqS r ev o fun ι1 H1 ms1 a b B o1 => o1 _ ι1 H1 B.rel .refl (B.env.set B.r i)
    exact z)
end
end DL

set_option maxHeartbeats 1000000
namespace DL
open PySem PySem.Spec L2
open PyProof.Rows hiding St

/-! ### what leans on the first cells alone -/
mutual
def lowD (b : Nat) : D → Bool
  | .tup ds => lowDs b ds
  | .lst ds => lowDs b ds
  | .ro ds => lowDs b ds
  | .ptr n => decide (n < b)
  | _ => true
def lowDs (b : Nat) : List D → Bool
  | [] => true
  | d :: ds => lowD b d && lowDs b ds
end
def lowCell (b : Nat) : Cell → Bool
  | .lst ds => lowDs b ds
  | .obj _ fs => lowDs b (fs.map (·.2))
  | .dK fs => lowDs b (fs.map (·.2))
  | .dT fs => lowDs b (fs.map (·.2))
  | .exn _ _ => true
def Tidy (b : Nat) (ms ms1 : MS) : Prop := ∀ n, n < b → ms1[n]? = ms[n]? ∨ ∃ c, ms1[n]? = some c ∧ lowCell b c = true
mutual
/-- the lists that were made behind the entry become data -/
def frz (b : Nat) (ms : MS) : D → Option D
  | .ptr n => if n < b then some (.ptr n) else match ms[n]? with
    | some (.lst ds) => if lowDs b ds = true then some (.lst ds) else none
    | _ => none
  | .tup ds => (frzs b ms ds).map .tup
  | .lst ds => (frzs b ms ds).map .lst
  | .ro ds => (frzs b ms ds).map .ro
  | .non => some .non
  | .bl x => some (.bl x)
  | .int i => some (.int i)
  | .str x => some (.str x)
def frzs (b : Nat) (ms : MS) : List D → Option (List D)
  | [] => some []
  | d :: ds => match frz b ms d, frzs b ms ds with
    | some e, some es => some (e :: es)
    | _, _ => none
end
section
variable {K : PySem.W.Frag} {E : EW} {ι ι1 : Ct} {H H1 : Hp} {ms ms1 : MS}
mutual
theorem Rp.low (hl : ι.a.length = ms.length) : ∀ (d : D) (v : V), Rp K ι H d v → lowD ms.length d = true
  | .non, _, _ => rfl
  | .bl _, _, _ => rfl
  | .int _, _, _ => rfl
  | .str _, _, _ => rfl
  | .tup ds, _, h => by obtain ⟨_, xs, _, _, r⟩ := h; exact Rps.low hl ds xs r
  | .lst ds, _, h => by obtain ⟨_, xs, _, _, _, r⟩ := h; exact Rps.low hl ds xs r
  | .ro ds, _, h => by obtain ⟨_, xs, _, _, r⟩ := h; exact Rps.low hl ds xs r
  | .ptr n, _, h => by
    obtain ⟨p, _, q⟩ := h
    exact decide_eq_true (by rw [← hl]; exact (List.getElem?_eq_some_iff.mp q).1)
theorem Rps.low (hl : ι.a.length = ms.length) : ∀ (ds : List D) (vs : List V), Rps K ι H ds vs → lowDs ms.length ds = true
  | [], _, _ => rfl
  | d :: ds, _, h => by
    obtain ⟨v, r, _, h1, h2⟩ := h
    show (lowD ms.length d && lowDs ms.length ds) = true
    rw [Rp.low hl d v h1, Rps.low hl ds r h2]
    rfl
end
mutual
theorem Rp.back (l : Le ι H ι1 H1) (b : Nat) (hb : b = ι.a.length) : ∀ (d : D) (v : V), lowD b d = true → Rp K ι1 H1 d v → Rp K ι H1 d v
  | .non, _, _, h => h
  | .bl _, _, _, h => h
  | .int _, _, _, h => h
  | .str _, _, _, h => h
  | .tup ds, _, g, h => by obtain ⟨p, xs, e, q, r⟩ := h; exact ⟨p, xs, e, q, Rps.back l b hb ds xs g r⟩
  | .lst ds, _, g, h => by
    obtain ⟨p, xs, e, q, n, r⟩ := h
    obtain ⟨e2, q2⟩ := l.pre
    exact ⟨p, xs, e, q, ⟨fun hm => n.1 (by rw [q2]; exact List.mem_append_left _ hm), by have := n.2; rw [l.same] at this; exact this⟩, Rps.back l b hb ds xs g r⟩
  | .ro ds, _, g, h => by obtain ⟨p, xs, e, q, r⟩ := h; exact ⟨p, xs, e, q, Rps.back l b hb ds xs g r⟩
  | .ptr n, _, g, h => by
    obtain ⟨p, e, q⟩ := h
    obtain ⟨e2, q2⟩ := l.pre
    have hn : n < b := of_decide_eq_true g
    rw [q2, List.getElem?_append_left (by omega)] at q
    exact ⟨p, e, q⟩
theorem Rps.back (l : Le ι H ι1 H1) (b : Nat) (hb : b = ι.a.length) : ∀ (ds : List D) (vs : List V), lowDs b ds = true → Rps K ι1 H1 ds vs → Rps K ι H1 ds vs
  | [], _, _, h => h
  | d :: ds, _, g, h => by
    obtain ⟨v, r, e, h1, h2⟩ := h
    have g' : (lowD b d && lowDs b ds) = true := g
    rw [Bool.and_eq_true] at g'
    exact ⟨v, r, e, Rp.back l b hb d v g'.1 h1, Rps.back l b hb ds r g'.2 h2⟩
end
mutual
theorem Rp.frz (l : Le ι H ι1 H1) (R1 : Rel K ι1 H1 ms1) (b : Nat) (hb : b = ι.a.length) : ∀ (d d' : D) (v : V), frz b ms1 d = some d' → Rp K ι1 H1 d v → Rp K ι H1 d' v
  | .non, _, _, g, h => by cases g; exact h
  | .bl _, _, _, g, h => by cases g; exact h
  | .int _, _, _, g, h => by cases g; exact h
  | .str _, _, _, g, h => by cases g; exact h
  | .tup ds, _, _, g, h => by
    obtain ⟨p, xs, e, q, r⟩ := h
    unfold DL.frz at g
    cases z : DL.frzs b ms1 ds with
    | none => rw [z] at g; cases g
    | some es => rw [z] at g; cases g; exact ⟨p, xs, e, q, Rps.frz l R1 b hb ds es xs z r⟩
  | .lst ds, _, _, g, h => by
    obtain ⟨p, xs, e, q, n, r⟩ := h
    obtain ⟨e2, q2⟩ := l.pre
    unfold DL.frz at g
    cases z : DL.frzs b ms1 ds with
    | none => rw [z] at g; cases g
    | some es => rw [z] at g; cases g; exact ⟨p, xs, e, q, ⟨fun hm => n.1 (by rw [q2]; exact List.mem_append_left _ hm), by have := n.2; rw [l.same] at this; exact this⟩, Rps.frz l R1 b hb ds es xs z r⟩
  | .ro ds, _, _, g, h => by
    obtain ⟨p, xs, e, q, r⟩ := h
    unfold DL.frz at g
    cases z : DL.frzs b ms1 ds with
    | none => rw [z] at g; cases g
    | some es => rw [z] at g; cases g; exact ⟨p, xs, e, q, Rps.frz l R1 b hb ds es xs z r⟩
  | .ptr n, d', _, g, h => by
    obtain ⟨p, e, q⟩ := h
    obtain ⟨e2, q2⟩ := l.pre
    have g0 : (if n < b then some (.ptr n) else match ms1[n]? with | some (.lst ds) => if lowDs b ds = true then some (D.lst ds) else none | _ => none) = some d' := by
      unfold DL.frz at g
      exact g
    by_cases hn : n < b
    · rw [if_pos hn] at g0
      cases g0
      rw [q2, List.getElem?_append_left (by omega)] at q
      exact ⟨p, e, q⟩
    · rw [if_neg hn] at g0
      cases z : ms1[n]? with
      | none => rw [z] at g0; cases g0
      | some c =>
        cases c with
        | lst ds =>
          rw [z] at g0
          have g1 : (if lowDs b ds = true then some (D.lst ds) else none) = some d' := g0
          by_cases hl : lowDs b ds = true
          · rw [if_pos hl] at g1
            cases g1
            obtain ⟨xs, h1, h2⟩ := R1.ok n p _ q z
            refine ⟨p, xs, e, h1, ⟨fun hm => ?_, fun hm => ?_⟩, Rps.back l b hb ds xs hl h2⟩
            · obtain ⟨m, hm⟩ := List.getElem?_of_mem hm
              have hm2 : ι1.a[m]? = some p := by
                rw [q2, List.getElem?_append_left (List.getElem?_eq_some_iff.mp hm).1]
                exact hm
              have := nd_ix R1.nd q hm2
              have := (List.getElem?_eq_some_iff.mp hm).1
              omega
            · exact R1.notf q (by rw [l.same]; exact hm)
          · rw [if_neg hl] at g1; cases g1
        | obj _ _ => rw [z] at g0; cases g0
        | dK _ => rw [z] at g0; cases g0
        | dT _ => rw [z] at g0; cases g0
        | exn _ _ => rw [z] at g0; cases g0
theorem Rps.frz (l : Le ι H ι1 H1) (R1 : Rel K ι1 H1 ms1) (b : Nat) (hb : b = ι.a.length) : ∀ (ds ds' : List D) (vs : List V), frzs b ms1 ds = some ds' → Rps K ι1 H1 ds vs → Rps K ι H1 ds' vs
  | [], _, _, g, h => by cases g; exact h
  | d :: ds, _, _, g, h => by
    obtain ⟨v, r, e, h1, h2⟩ := h
    unfold DL.frzs at g
    cases z : DL.frz b ms1 d with
    | none => rw [z] at g; cases g
    | some x =>
      cases z2 : DL.frzs b ms1 ds with
      | none => rw [z, z2] at g; cases g
      | some xs =>
        rw [z, z2] at g
        cases g
        exact ⟨v, r, e, Rp.frz l R1 b hb d x v z h1, Rps.frz l R1 b hb ds xs r z2 h2⟩
end
theorem Rel.cut (R : Rel K ι H ms) (l : Le ι H ι1 H1) (R1 : Rel K ι1 H1 ms1) (t : Tidy ms.length ms ms1) : Rel K ι H1 (ms1.take ms.length) ∧ Le ι H ι H1 := by
  obtain ⟨e2, q2⟩ := l.pre
  have hl := R.len
  have hl1 := R1.len
  rw [q2, List.length_append] at hl1
  refine ⟨⟨by rw [List.length_take]; omega, R.nd, fun n p c h1 h2 => ?_, fun p hp => ?_⟩, ⟨⟨[], by simp⟩, rfl, l.tup, l.frz, fun p xs h n => ⟨(l.lst p xs h n).1, n⟩, l.keep⟩⟩
  · have hn : n < ms.length := by rw [← hl]; exact (List.getElem?_eq_some_iff.mp h1).1
    rw [List.getElem?_take_of_lt hn] at h2
    have h1' : ι1.a[n]? = some p := l.at h1
    have hc := R1.ok n p c h1' h2
    have low : lowCell ms.length c = true := by
      rcases t n hn with e | ⟨c', e, g⟩
      · rw [h2] at e
        have ho := R.ok n p c h1 e.symm
        cases c with
        | lst ds => obtain ⟨xs, _, r⟩ := ho; exact Rps.low hl _ _ r
        | obj nm fs => obtain ⟨_, _, _, _, _, _, r⟩ := ho; exact Rps.low hl _ _ r
        | dK fs => obtain ⟨_, _, _, r⟩ := ho; exact Rps.low hl _ _ r
        | dT fs => obtain ⟨_, _, _, r⟩ := ho; exact Rps.low hl _ _ r
        | exn _ _ => rfl
      · rw [h2] at e; cases e; exact g
    cases c with
    | lst ds => obtain ⟨xs, a, r⟩ := hc; exact ⟨xs, a, Rps.back l _ hl.symm _ _ low r⟩
    | obj nm fs => obtain ⟨C, dx, vs, a0, a, b, r⟩ := hc; exact ⟨C, dx, vs, a0, a, b, Rps.back l _ hl.symm _ _ low r⟩
    | dK fs => obtain ⟨vs, a, b, r⟩ := hc; exact ⟨vs, a, b, Rps.back l _ hl.symm _ _ low r⟩
    | dT fs => obtain ⟨vs, a, b, r⟩ := hc; exact ⟨vs, a, b, Rps.back l _ hl.symm _ _ low r⟩
    | exn nm y => exact hc
  · obtain ⟨a, xs, e⟩ := R1.fb p (by rw [l.same]; exact hp)
    exact ⟨fun hm => a (by rw [q2]; exact List.mem_append_left _ hm), xs, e⟩
end

/-! ### defs -/
def dSp (K : PySem.W.Frag) (n : Nat) (sem : List D → MS → Res D) : Sp := fun vs H Q _ => ∃ ι ms ds, Rel K ι H ms ∧ Rps K ι H ds vs ∧ ds.length = n ∧ Out K E00 (Rp K) ι H (sem ds ms) Q
@[simp] def envAt (N : Nat) (args : List D) : Env := args.map some ++ List.replicate (N - args.length) none
@[simp] def retOf (a : SR) (ms : MS) : Res D := match a with
  | (.nx, _) => .ok .non ms
  | (.ret d, _) => .ok d ms
  | _ => .bad
/-- a def's meaning; its meaning with what was made within thrown away -/
@[simp] def runF (N : Nat) (B : SF) (args : List D) (ms : MS) : Res D := (B (envAt N args) ms).bind retOf
open Classical in
noncomputable def runT (N : Nat) (B : SF) (args : List D) (ms : MS) : Res D := (runF N B args ms).bind fun d ms1 => match frz ms.length ms1 d with
  | some d' => if Tidy ms.length ms ms1 then .ok d' (ms1.take ms.length) else .bad
  | none => .bad
section
variable {P : Program} {w : World} {K : PySem.W.Frag} {mg : Str → Option Value} {base : Heap}
theorem env_at {ι : Ct} {H : Hp} {N : List Str} {ds : List D} {vs : List V} (r : Rps K ι H ds vs) : EnvOk K ι H (envAt N.length ds) (L2.start N vs) := by
  unfold envAt L2.start
  refine ⟨by simp [r.length], fun i d e => ?_⟩
  by_cases hi : i < ds.length
  · rw [List.getElem?_append_left (by simpa using hi), List.getElem?_map] at e
    cases q : ds[i]? with
    | none => rw [q] at e; cases e
    | some d' =>
      rw [q] at e
      cases e
      obtain ⟨v, e1, e2⟩ := r.get q
      refine ⟨v, ?_, e2⟩
      rw [List.getElem?_append_left (by simp [r.length, hi]), List.getElem?_map, e1]
      rfl
  · rw [List.getElem?_append_right (by simpa using Nat.le_of_not_lt hi)] at e
    have := List.getElem?_eq_some_iff.mp e
    obtain ⟨h1, h2⟩ := this
    simp at h2
theorem outS_run {ι : Ct} {H : Hp} {N : Nat} {B : SF} {ds : List D} {ms : MS} {Q : VK} (o : Out K E00 (Rp K) ι H (runF N B ds ms) Q) : OutS K E00 ι H (B (envAt N ds) ms) { nx := fun _ H' => Q .non H', rt := Q } := by
  unfold runF at o
  cases q : B (envAt N ds) ms with
  | bad => rw [q] at o; exact o
  | exc x ms1 => rw [q] at o; exact o
  | ok a ms1 =>
    rw [q] at o
    obtain ⟨fl, env1⟩ := a
    cases fl with
    | nx => exact fun σ' ι' H' R l _ => o .non ι' H' R l rfl
    | brk => exact o.elim
    | cont => exact o.elim
    | ret d => exact o
theorem fn_run {x qual : Str} {st : Stmt} {f : Addr} {fd : FuncData} {N ps : List Str} {k : Nat} {B : SF} (F : Fun K x qual st f fd) (S : FnScope N ps (defScope st))
    (hb : ∀ (cdv : Value) (A : Around) (outer : List PySem.Env) (s : Shared) (H : Hp) (EX : XK), Room k (A.deeper (PyProof.Rows.envOfC qual (defScope st) s.heap.objs.size f cdv)) →
      PSs (cxOf CX0 P w K mg base N qual (defScope st) f cdv A outer s H EX).nox (defBody st) (tS K E00 B)) : FnOk P w K mg base CX0 (k + 1) f fd ps (dSp K ps.length (runF N.length B)) :=
  F.ok S (fun vs H Q E ⟨ι, ms, ds, R, r, hl, o⟩ => r.length.trans hl) fun cdv A outer s H vs Q E hr ⟨ι, ms, ds, R, r, hl, o⟩ => ⟨_, hb cdv A outer s H E hr, ι, _, ms, R, env_at r, outS_run o⟩
theorem fn_runT {x qual : Str} {st : Stmt} {f : Addr} {fd : FuncData} {N ps : List Str} {k : Nat} {B : SF} (F : Fun K x qual st f fd) (S : FnScope N ps (defScope st))
    (hb : ∀ (cdv : Value) (A : Around) (outer : List PySem.Env) (s : Shared) (H : Hp) (EX : XK), Room k (A.deeper (PyProof.Rows.envOfC qual (defScope st) s.heap.objs.size f cdv)) →
      PSs (cxOf CX0 P w K mg base N qual (defScope st) f cdv A outer s H EX).nox (defBody st) (tS K E00 B)) : FnOk P w K mg base CX0 (k + 1) f fd ps (dSp K ps.length (runT N.length B)) :=
  (fn_run F S hb).imp fun vs H Q _ ⟨ι, ms, ds, R, r, hl, o⟩ => ⟨ι, ms, ds, R, r, hl, by
    unfold runT at o
    cases q : runF N.length B ds ms with
    | bad => rw [q] at o; exact o
    | exc x ms1 => rw [q] at o; exact o
    | ok d ms1 =>
      simp only [q, bind_ok] at o
      intro v ι1 H1 R1 l1 rd
      cases z : frz ms.length ms1 d with
      | none => simp only [z] at o; exact o.elim
      | some d' =>
        simp only [z] at o
        by_cases t : Tidy ms.length ms ms1
        · rw [if_pos t] at o
          obtain ⟨R2, l2⟩ := R.cut l1 R1 t
          exact o v ι H1 R2 l2 (Rp.frz l1 R1 _ R.len.symm d d' v z rd)
        · rw [if_neg t] at o; exact o.elim⟩
end
@[simp] def callP (n : Nat) (sem : List D → MS → Res D) (ds : List D) (ms : MS) : Res D := if ds.length = n then noExc (sem ds ms) else .bad
theorem out_noExc {α β : Type} {K : PySem.W.Frag} {E E' : EW} {R : Ct → Hp → α → β → Prop} {ι : Ct} {H : Hp} {r : Res α} {Q : β → Hp → Prop} (o : Out K E R ι H (noExc r) Q) : Out K E' R ι H r Q := by
  cases r with
  | bad => exact o
  | exc x ms => exact o.elim
  | ok a ms => exact o
section
variable {X : Cx} {E : EW} {k n : Nat} {f : Addr} {fd : FuncData} {ps : List Str} {x : Str} {p pos : Pos} {e : Expr} {es : List Expr} {fs : Env → MS → Res (List D)} {sem : List D → MS → Res D}
theorem d_call (G : FnOk X.prog X.w X.K X.mg X.base CX0 k f fd ps (dSp X.K n sem)) (hr : Room k X.A) (hg : Gl X x) (hm : X.mg x = some (.ref f)) (hk : PySem.W.keepIn X.K (.ref f) = true) (hb : Binds X.K fd ps [])
    (ha : DA X E (e :: es) fs) (hdb : (x == ("__debug__" : Str)) = false := by decide) (he : starEach (e :: es) X.env = (false, eval e X.env) :: starEach es X.env := by rfl) (hpl : (backTo pos (starEach es X.env)).any (·.1) = false := by rfl) :
    DE X E (.Call (.Name x p) (e :: es) [] pos) (appE fs (callP n sem)) :=
  PE.conv (pe_call G hr hg hm hk hb .nil pass0 ha hdb he hpl) fun σ H Q ⟨ι, env, ms, r, ev, o⟩ => tR_seq r ev o fun ι1 H1 ms1 ds vs B o1 => by
    unfold callP at o1
    by_cases h : ds.length = n
    · rw [if_pos h] at o1
      rw [List.append_nil]
      exact ⟨ι1, ms1, ds, B.rel, B.r, h, out_noExc o1⟩
    · rw [if_neg h] at o1; exact o1.elim
theorem d_call0 (G : FnOk X.prog X.w X.K X.mg X.base CX0 k f fd ps (dSp X.K n sem)) (hr : Room k X.A) (hg : Gl X x) (hm : X.mg x = some (.ref f)) (hk : PySem.W.keepIn X.K (.ref f) = true) (hb : Binds X.K fd ps [])
    (hdb : (x == ("__debug__" : Str)) = false := by decide) : DE X E (.Call (.Name x p) [] [] pos) (appE nilA (callP n sem)) :=
  PE.conv (pe_call0 G hr hg hm hk hb .nil pass0 hdb) fun σ H Q ⟨ι, env, ms, r, ev, o⟩ => by
    have o1 : Out X.K E (Rp X.K) ι H (callP n sem [] ms) Q := o
    unfold callP at o1
    by_cases h : ([] : List D).length = n
    · rw [if_pos h] at o1
      exact ⟨ι, ms, [], r, rfl, h, out_noExc o1⟩
    · rw [if_neg h] at o1; exact o1.elim
/-! keywords -/
theorem PK.conv {X : Cx} {e : List Keyword} {t t' : TA} (h : PK X e t) (c : ∀ σ H Q, t' σ H Q → t σ H Q) : PK X e t' := ⟨fun pos pins s σ H Q I q => h.run pos pins s σ H Q I (c σ H Q q)⟩
abbrev DK (X : Cx) (E : EW) (es : List Keyword) (f : Env → MS → Res (List D)) : Prop := PK X es (tAr X.K E f)
theorem kw_nil : DK X E [] nilA := PK.conv pk_nil fun σ H Q ⟨ι, env, ms, r, ev, o⟩ => o [] ι H r .refl rfl
theorem kw_cons {nm : Option Str} {kpos : Pos} {kws : List Keyword} {fe : Env → MS → Res D} (ha : DE X E e fe) (hs : DK X E kws fs) : DK X E (⟨nm, e, kpos⟩ :: kws) (consA fe fs) :=
  PK.conv (pk_cons ha hs) fun σ H Q ⟨ι, env, ms, r, ev, o⟩ => by
    refine tR_seq r ev o fun ι1 H1 ms1 d x B1 o1 => ?_
    refine tR_seq B1.rel B1.env o1 fun ι2 H2 ms2 r xs B2 o2 => ?_
    exact o2 _ ι2 H2 B2.rel .refl ⟨x, xs, rfl, Rp.mono B2.le _ _ B1.r, B2.r⟩
end
end DL

set_option maxHeartbeats 1000000
namespace DL
open PySem PySem.Spec L2
open PyProof.Rows hiding St

/-! ### calls by keywords: the values picked in the parameters' order -/
@[simp] def pick {α : Type} (ix : List Nat) (xs : List α) : List α := ix.filterMap fun i => xs[i]?
theorem pick_vals {vs : List V} {us : List Value} (r : Vals vs us) : ∀ ix : List Nat, Vals (pick ix vs) (pick ix us)
  | [] => .nil
  | i :: ix => by
    unfold pick
    cases e : vs[i]? with
    | none => rw [List.filterMap_cons, List.filterMap_cons, e, r.none_of e]; exact pick_vals r ix
    | some v =>
      obtain ⟨u, e1, e2⟩ := r.get e
      rw [List.filterMap_cons, List.filterMap_cons, e, e1]
      exact .cons e2 (pick_vals r ix)
theorem pick_rps {K : PySem.W.Frag} {ι : Ct} {H : Hp} {ds : List D} {vs : List V} (r : Rps K ι H ds vs) : ∀ ix : List Nat, Rps K ι H (pick ix ds) (pick ix vs)
  | [] => rfl
  | i :: ix => by
    unfold pick
    cases e : ds[i]? with
    | none =>
      have e2 : vs[i]? = none := by rw [List.getElem?_eq_none_iff, r.length]; exact List.getElem?_eq_none_iff.mp e
      rw [List.filterMap_cons, List.filterMap_cons, e, e2]
      exact pick_rps r ix
    | some v =>
      obtain ⟨u, e1, e2⟩ := r.get e
      rw [List.filterMap_cons, List.filterMap_cons, e, e1]
      exact ⟨u, _, rfl, e2, pick_rps r ix⟩
structure KwB (K : PySem.W.Frag) (fd : FuncData) (ps : List Str) (n : Nat) (ks : List Str) (ix : List Nat) : Prop where
  to : ∀ (s : Shared) (us ws : List Value), K.In s.heap → us.length = n → ws.length = ks.length → BindsTo s fd ⟨us, ks.zip ws⟩ (ps.zip (pick ix (us ++ ws)))
theorem KwB.kbn {K : PySem.W.Frag} {fd : FuncData} {ps : List Str} {n : Nat} {ks : List Str} {ix : List Nat} (h : KwB K fd ps n ks ix) : KBn K fd ps n ks (fun us ws => pick ix (us ++ ws)) (fun vs zs => pick ix (vs ++ zs)) :=
  ⟨h.to, fun r1 r2 => pick_vals (r1.append r2) ix⟩
theorem KwB.mk' {x qual : Str} {st : Stmt} {f : Addr} {fd : FuncData} {ps : List Str} {K : PySem.W.Frag} (F : Fun K x qual st f fd) (n : Nat) (ks : List Str) (ix : List Nat)
    (h : ∀ (kV doc pm : Value) (an : Option Addr) (cdv ct : Value) (us ws : List Value), us.length = n → ws.length = ks.length → bindArgs (PySem.W.fnOf x qual (defArgs st) (defBody st) (defScope st) .none kV doc pm an cdv ct) ⟨us, ks.zip ws⟩ = pure (ps.zip (pick ix (us ++ ws)))) : KwB K fd ps n ks ix := by
  obtain ⟨oc, od, kV, doc, pm, an, cdv, ct, osl, rfl, lk, hcd⟩ := F.ex
  exact ⟨fun s us ws _ l1 l2 => .of_eq (h kV doc pm an cdv ct us ws l1 l2)⟩
@[simp] def kwP (np n m : Nat) (ix : List Nat) (sem : List D → MS → Res D) (ds es : List D) (ms : MS) : Res D := if ds.length = n ∧ es.length = m ∧ (pick ix (ds ++ es)).length = np then noExc (sem (pick ix (ds ++ es)) ms) else .bad
@[simp] def kwE (fs fk : Env → MS → Res (List D)) (p : List D → List D → MS → Res D) (env : Env) (ms : MS) : Res D := (fs env ms).bind fun ds ms1 => (fk env ms1).bind fun es ms2 => p ds es ms2
section
variable {X : Cx} {E : EW} {k n np : Nat} {f : Addr} {fd : FuncData} {ps ks : List Str} {ix : List Nat} {x : Str} {p pos : Pos} {e : Expr} {es : List Expr} {kws : List Keyword} {fs fk : Env → MS → Res (List D)} {sem : List D → MS → Res D}
theorem kw_ok {K : PySem.W.Frag} {σ : St} {H : Hp} {Q : VK} {EX : XK} (h : tD K E (kwE fs fk (kwP np n ks.length ix sem)) σ H Q) : tCallN n ks.length (dSp K np sem) (fun vs zs => pick ix (vs ++ zs)) EX (tAr K E fs) (tAr K E fk) σ H Q := by
  obtain ⟨ι, env, ms, r, ev, o⟩ := h
  refine tR_seq r ev o fun ι1 H1 ms1 ds vs B1 o1 => ?_
  refine tR_seq B1.rel B1.env o1 fun ι2 H2 ms2 es zs B2 o2 => ?_
  unfold kwP at o2
  by_cases h : ds.length = n ∧ es.length = ks.length ∧ (pick ix (ds ++ es)).length = np
  · rw [if_pos h] at o2
    have r1 := Rps.mono B2.le _ _ B1.r
    exact ⟨r1.length.trans h.1, B2.r.length.trans h.2.1, ι2, ms2, _, B2.rel, pick_rps (r1.append B2.r) ix, h.2.2, out_noExc o2⟩
  · rw [if_neg h] at o2; exact o2.elim
theorem d_callK (G : FnOk X.prog X.w X.K X.mg X.base CX0 k f fd ps (dSp X.K np sem)) (hr : Room k X.A) (hg : Gl X x) (hm : X.mg x = some (.ref f)) (hk : PySem.W.keepIn X.K (.ref f) = true) (hb : KwB X.K fd ps n ks ix)
    (ha : DA X E (e :: es) fs) (hkw : DK X E kws fk) (hall : (backToKw pos (keywordEach kws X.env)).all (·.1.isSome) = true := by rfl) (hks : (backToKw pos (keywordEach kws X.env)).filterMap (·.1) = ks := by rfl)
    (hdb : (x == ("__debug__" : Str)) = false := by decide) (he : starEach (e :: es) X.env = (false, eval e X.env) :: starEach es X.env := by rfl)
    (hpl : ((backTo pos (starEach (e :: es) X.env)).any (·.1) || (backToKw pos (keywordEach kws X.env)).any (·.1.isNone)) = false := by rfl) : DE X E (.Call (.Name x p) (e :: es) kws pos) (kwE fs fk (kwP np n ks.length ix sem)) :=
  PE.conv (pe_callN G hr hg hm hk hb.kbn pass0 ha hkw hall hks hdb he hpl) fun _ _ _ h => kw_ok h
/-- f(k = v, ..) -/
theorem d_callK0 (G : FnOk X.prog X.w X.K X.mg X.base CX0 k f fd ps (dSp X.K np sem)) (hr : Room k X.A) (hg : Gl X x) (hm : X.mg x = some (.ref f)) (hk : PySem.W.keepIn X.K (.ref f) = true) (hb : KwB X.K fd ps 0 ks ix)
    (hkw : DK X E kws fk) (hall : (backToKw pos (keywordEach kws X.env)).all (·.1.isSome) = true := by rfl) (hks : (backToKw pos (keywordEach kws X.env)).filterMap (·.1) = ks := by rfl)
    (hdb : (x == ("__debug__" : Str)) = false := by decide)
    (hpl : ((backTo pos (starEach [] X.env)).any (·.1) || (backToKw pos (keywordEach kws X.env)).any (·.1.isNone)) = false := by rfl) : DE X E (.Call (.Name x p) [] kws pos) (kwE nilA fk (kwP np 0 ks.length ix sem)) := by
  refine ⟨fun pins s σ H Q I h => ?_⟩
  have h' : tCallN 0 ks.length (dSp X.K np sem) (fun vs zs => pick ix (vs ++ zs)) E0 (tAr X.K E nilA) (tAr X.K E fk) σ H Q := kw_ok h
  have h2 : tAr X.K E fk σ H fun zs H2 => zs.length = ks.length ∧ dSp X.K np sem (pick ix ([] ++ zs)) H2 Q E0 := by
    obtain ⟨ι, env, ms, r, ev, o⟩ := h
    have o' : Out X.K E (Rp X.K) ι H ((fk env ms).bind fun es ms2 => kwP np 0 ks.length ix sem [] es ms2) Q := o
    refine tR_seq r ev o' fun ι2 H2 ms2 es zs B2 o2 => ?_
    unfold kwP at o2
    by_cases h : ([] : List D).length = 0 ∧ es.length = ks.length ∧ (pick ix ([] ++ es)).length = np
    · rw [if_pos h] at o2
      exact ⟨B2.r.length.trans h.2.1, ι2, ms2, _, B2.rel, pick_rps B2.r ix, h.2.2, out_noExc o2⟩
    · rw [if_neg h] at o2; exact o2.elim
  refine wpAny_Call_Name_kw (ld_glob I hg hm ?_ hdb)
  refine PySem.W.callWith_KW0 (h₀ := X.base) I.ok.mod.kin hk hall (thn (hkw.run pos pins s σ H _ I h2) fun ws s2 ⟨zs, H2, I2, rz, l2, q2⟩ => ⟨I2.kIn, ?_⟩) hpl
  rw [hks]
  exact run_fnN (vs := []) G hr hb.kbn pass0 I2 .nil rz rfl l2 q2
end

/-! ### built-ins -/
/-- a built-in's answer by data -/
abbrev PC1 (K : PySem.W.Frag) (E : EW) (r : List V → Hp → VK → Prop) (p : List D → MS → Res D) : Prop :=
  ∀ (ι : Ct) (H : Hp) (ms : MS) (ds : List D) (vs : List V) (Q : VK), Rel K ι H ms → Rps K ι H ds vs → Out K E (Rp K) ι H (p ds ms) Q → r vs H Q
section
variable {X : Cx} {E : EW} {x : Str} {p pos : Pos} {e : Expr} {es : List Expr} {fs : Env → MS → Res (List D)} {id T : String} {r : List V → Hp → VK → Prop} {q : List D → MS → Res D}
theorem d_blt (hc : CallR X (.builtin id) r) (hp : PC1 X.K E r q) (hg : Gl X x) (hm : X.mg x = none) (hv : bootBuiltins x = some (.builtin id)) (ha : DA X E (e :: es) fs) (hn : x ≠ "__name__" := by decide) (hdb : (x == ("__debug__" : Str)) = false := by decide)
    (he : starEach (e :: es) X.env = (false, eval e X.env) :: starEach es X.env := by rfl) (hpl : (backTo pos (starEach es X.env)).any (·.1) = false := by rfl) : DE X E (.Call (.Name x p) (e :: es) [] pos) (appE fs q) :=
  PE.conv (pe_callB hc hg hm hv ha hn hdb he hpl) fun σ H Q ⟨ι, env, ms, r, ev, o⟩ => tR_seq r ev o fun ι1 H1 ms1 ds vs B o1 => hp ι1 H1 ms1 ds vs Q B.rel B.r o1
theorem d_bty (hc : CallR X (.type T) r) (hp : PC1 X.K E r q) (hg : Gl X x) (hm : X.mg x = none) (hv : bootBuiltins x = some (.type T)) (ha : DA X E (e :: es) fs) (hn : x ≠ "__name__" := by decide) (hdb : (x == ("__debug__" : Str)) = false := by decide)
    (he : starEach (e :: es) X.env = (false, eval e X.env) :: starEach es X.env := by rfl) (hpl : (backTo pos (starEach es X.env)).any (·.1) = false := by rfl) : DE X E (.Call (.Name x p) (e :: es) [] pos) (appE fs q) :=
  PE.conv (pe_callTy hc hg hm hv ha hn hdb he hpl) fun σ H Q ⟨ι, env, ms, r, ev, o⟩ => tR_seq r ev o fun ι1 H1 ms1 ds vs B o1 => hp ι1 H1 ms1 ds vs Q B.rel B.r o1
end
@[simp] def lenP (ds : List D) (ms : MS) : Res D := match ds with
  | [.str z] => if z.length ≤ LIM then .ok (.int z.length) ms else .bad
  | [d] => match seqOf ms d with
    | some xs => .ok (.int xs.length) ms
    | none => .bad
  | _ => .bad
@[simp] def absP (ds : List D) (ms : MS) : Res D := match ds with
  | [.int i] => .ok (.int (if i < 0 then -i else i)) ms
  | _ => .bad
@[simp] def intP (ds : List D) (ms : MS) : Res D := match ds with
  | [.int i] => .ok (.int i) ms
  | [.bl k] => .ok (.int (if k then 1 else 0)) ms
  | _ => .bad
@[simp] def max2P (ds : List D) (ms : MS) : Res D := match ds with
  | [.int i, .int j] => .ok (.int (if j > i then j else i)) ms
  | _ => .bad
def boolsOf : List D → Option (List Bool)
  | [] => some []
  | .bl b :: ds => (boolsOf ds).map (b :: ·)
  | _ => none
def intsOf : List D → Option (List Int)
  | [] => some []
  | .int b :: ds => (intsOf ds).map (b :: ·)
  | _ => none
def textsOf : List D → Option (List Str)
  | [] => some []
  | .str b :: ds => (textsOf ds).map (b :: ·)
  | _ => none
theorem boolsOf_eq : ∀ {ds : List D} {bs : List Bool}, boolsOf ds = some bs → ds = bs.map D.bl
  | [], _, h => by cases h; rfl
  | .bl b :: ds, _, h => by
    unfold boolsOf at h
    cases e : boolsOf ds with
    | none => rw [e] at h; cases h
    | some r => rw [e] at h; cases h; rw [boolsOf_eq e]; rfl
  | .non :: _, _, h => by cases h
  | .int _ :: _, _, h => by cases h
  | .str _ :: _, _, h => by cases h
  | .tup _ :: _, _, h => by cases h
  | .lst _ :: _, _, h => by cases h
  | .ro _ :: _, _, h => by cases h
  | .ptr _ :: _, _, h => by cases h
theorem intsOf_eq : ∀ {ds : List D} {bs : List Int}, intsOf ds = some bs → ds = bs.map D.int
  | [], _, h => by cases h; rfl
  | .int b :: ds, _, h => by
    unfold intsOf at h
    cases e : intsOf ds with
    | none => rw [e] at h; cases h
    | some r => rw [e] at h; cases h; rw [intsOf_eq e]; rfl
  | .non :: _, _, h => by cases h
  | .bl _ :: _, _, h => by cases h
  | .str _ :: _, _, h => by cases h
  | .tup _ :: _, _, h => by cases h
  | .lst _ :: _, _, h => by cases h
  | .ro _ :: _, _, h => by cases h
  | .ptr _ :: _, _, h => by cases h
theorem textsOf_eq : ∀ {ds : List D} {bs : List Str}, textsOf ds = some bs → ds = bs.map D.str
  | [], _, h => by cases h; rfl
  | .str b :: ds, _, h => by
    unfold textsOf at h
    cases e : textsOf ds with
    | none => rw [e] at h; cases h
    | some r => rw [e] at h; cases h; rw [textsOf_eq e]; rfl
  | .non :: _, _, h => by cases h
  | .bl _ :: _, _, h => by cases h
  | .int _ :: _, _, h => by cases h
  | .tup _ :: _, _, h => by cases h
  | .lst _ :: _, _, h => by cases h
  | .ro _ :: _, _, h => by cases h
  | .ptr _ :: _, _, h => by cases h
@[simp] theorem boolsOf_map (bs : List Bool) : boolsOf (bs.map D.bl) = some bs := by
  induction bs with
  | nil => rfl
  | cons b bs ih => show (boolsOf (bs.map D.bl)).map (b :: ·) = _; rw [ih]; rfl
@[simp] theorem intsOf_map (bs : List Int) : intsOf (bs.map D.int) = some bs := by
  induction bs with
  | nil => rfl
  | cons b bs ih => show (intsOf (bs.map D.int)).map (b :: ·) = _; rw [ih]; rfl
@[simp] theorem textsOf_map (bs : List Str) : textsOf (bs.map D.str) = some bs := by
  induction bs with
  | nil => rfl
  | cons b bs ih => show (textsOf (bs.map D.str)).map (b :: ·) = _; rw [ih]; rfl
/-- a built-in of one list -/
@[simp] def lst1 {α : Type} (rd : List D → Option α) (p : α → MS → Res D) (ds : List D) (ms : MS) : Res D := match ds with
  | [d] => match (rlOf ms d).bind rd with
    | some a => p a ms
    | none => .bad
  | _ => .bad
@[simp] def allP : List D → MS → Res D := lst1 boolsOf fun bs ms => .ok (.bl (bs.all id)) ms
@[simp] def anyP : List D → MS → Res D := lst1 boolsOf fun bs ms => .ok (.bl (bs.any id)) ms
@[simp] def sumP : List D → MS → Res D := lst1 intsOf fun ns ms => .ok (.int ns.sum) ms
section
variable {K : PySem.W.Frag} {E : EW}
theorem p_len : PC1 K E (fun xs H Q => (∃ p ys, xs = [.ref p] ∧ (SqL K H p ys ∨ SqT K H p ys) ∧ Q (.int ys.length) H) ∨ ∃ z, xs = [.str z] ∧ z.length ≤ sizeLine ∧ Q (.int z.length) H) lenP := by
  intro ι H ms ds vs Q R r o
  match ds, o with
  | [], o => exact o.elim
  | d :: _ :: _, o => cases d <;> exact o.elim
  | [d], o =>
    obtain ⟨v, rfl, rd⟩ := r.one
    by_cases hs : ∃ z, d = .str z
    · obtain ⟨z, rfl⟩ := hs
      have o' : Out K E (Rp K) ι H (if z.length ≤ LIM then .ok (.int z.length) ms else .bad) Q := o
      by_cases h : z.length ≤ LIM
      · rw [if_pos h] at o'
        cases rd
        exact .inr ⟨z, rfl, by rw [← lim_eq]; exact h, o' _ ι H R .refl rfl⟩
      · rw [if_neg h] at o'; exact o'.elim
    · have o' : Out K E (Rp K) ι H (match seqOf ms d with | some xs => .ok (.int xs.length) ms | none => .bad) Q := by
        cases d with
        | str z => exact (hs ⟨z, rfl⟩).elim
        | _ => exact o
      cases e : seqOf ms d with
      | none => rw [e] at o'; exact o'.elim
      | some xs =>
        rw [e] at o'
        obtain ⟨p, ys, rfl, rs, hq⟩ := R.seq e rd
        exact .inl ⟨p, ys, rfl, hq, o' _ ι H R .refl (by rw [rs.length]; rfl)⟩
theorem p_abs : PC1 K E (fun xs H Q => ∃ i, xs = [.int i] ∧ Q (.int (if i < 0 then -i else i)) H) absP := by
  intro ι H ms ds vs Q R r o
  match ds, r, o with
  | [.int i], r, o => obtain ⟨v, rfl, rd⟩ := r.one; cases rd; exact ⟨i, rfl, o _ ι H R .refl rfl⟩
  | [], r, o => exact o.elim
  | d :: _ :: _, r, o => cases d <;> exact o.elim
  | [.non], r, o => exact o.elim
  | [.bl _], r, o => exact o.elim
  | [.str _], r, o => exact o.elim
  | [.tup _], r, o => exact o.elim
  | [.lst _], r, o => exact o.elim
  | [.ro _], r, o => exact o.elim
  | [.ptr _], r, o => exact o.elim
theorem p_toInt : PC1 K E (fun xs H Q => (∃ i, xs = [.int i] ∧ Q (.int i) H) ∨ ∃ k, xs = [.bl k] ∧ Q (.int (if k then 1 else 0)) H) intP := by
  intro ι H ms ds vs Q R r o
  match ds, r, o with
  | [.int i], r, o => obtain ⟨v, rfl, rd⟩ := r.one; cases rd; exact .inl ⟨i, rfl, o _ ι H R .refl rfl⟩
  | [.bl i], r, o => obtain ⟨v, rfl, rd⟩ := r.one; cases rd; exact .inr ⟨i, rfl, o _ ι H R .refl rfl⟩
  | [], r, o => exact o.elim
  | d :: _ :: _, r, o => cases d <;> exact o.elim
  | [.non], r, o => exact o.elim
  | [.str _], r, o => exact o.elim
  | [.tup _], r, o => exact o.elim
  | [.lst _], r, o => exact o.elim
  | [.ro _], r, o => exact o.elim
  | [.ptr _], r, o => exact o.elim
theorem p_max2 : PC1 K E (fun xs H Q => ∃ i j, xs = [.int i, .int j] ∧ Q (.int (if j > i then j else i)) H) max2P := by
  intro ι H ms ds vs Q R r o
  by_cases h : ∃ i j, ds = [.int i, .int j]
  · obtain ⟨i, j, rfl⟩ := h
    obtain ⟨v, _, rfl, rd, r2⟩ := r
    obtain ⟨v2, rfl, rd2⟩ := r2.one
    cases rd
    cases rd2
    exact ⟨i, j, rfl, o _ ι H R .refl rfl⟩
  · unfold max2P at o
    split at o
    · rename_i i j
      exact (h ⟨i, j, rfl⟩).elim
    · exact o.elim
theorem lst1_ok {α : Type} {rd : List D → Option α} {p : α → MS → Res D} {ι : Ct} {H : Hp} {ms : MS} {ds : List D} {vs : List V} {Q : VK} (R : Rel K ι H ms) (r : Rps K ι H ds vs) (o : Out K E (Rp K) ι H (lst1 rd p ds ms) Q) :
    ∃ (a : Addr) (xs : List V) (es : List D) (z : α), vs = [.ref a] ∧ SqL K H a xs ∧ Rps K ι H es xs ∧ rd es = some z ∧ Out K E (Rp K) ι H (p z ms) Q := by
  unfold lst1 at o
  split at o
  · rename_i d
    obtain ⟨v, rfl, rv⟩ := r.one
    cases e : rlOf ms d with
    | none => rw [e] at o; exact o.elim
    | some es =>
      cases e2 : rd es with
      | none =>
        have : (rlOf ms d).bind rd = none := by rw [e]; exact e2
        rw [this] at o
        exact o.elim
      | some z =>
        have : (rlOf ms d).bind rd = some z := by rw [e]; exact e2
        rw [this] at o
        obtain ⟨a, xs, rfl, rs, hq⟩ := R.rl e rv
        exact ⟨a, xs, es, z, rfl, hq, rs, e2, o⟩
  · exact o.elim
theorem p_all : PC1 K E (rAll K) allP := fun ι H ms ds vs Q R r o => by
  obtain ⟨a, xs, es, bs, rfl, hq, rs, e, o'⟩ := lst1_ok R r o
  rw [boolsOf_eq e] at rs
  rw [rs.bls] at hq
  exact ⟨a, bs, rfl, hq, o' _ ι H R .refl rfl⟩
theorem p_any : PC1 K E (rAny K) anyP := fun ι H ms ds vs Q R r o => by
  obtain ⟨a, xs, es, bs, rfl, hq, rs, e, o'⟩ := lst1_ok R r o
  rw [boolsOf_eq e] at rs
  rw [rs.bls] at hq
  exact ⟨a, bs, rfl, hq, o' _ ι H R .refl rfl⟩
theorem p_sum : PC1 K E (rSum K) sumP := fun ι H ms ds vs Q R r o => by
  obtain ⟨a, xs, es, bs, rfl, hq, rs, e, o'⟩ := lst1_ok R r o
  rw [intsOf_eq e] at rs
  rw [rs.ints] at hq
  exact ⟨a, bs, rfl, hq, o' _ ι H R .refl rfl⟩
end

/-! ### isinstance -/
inductive Ty where
  | str | tuple | bool | int | list
def Ty.nm : Ty → String
  | .str => "str"
  | .tuple => "tuple"
  | .bool => "bool"
  | .int => "int"
  | .list => "list"
@[simp] def isTy (ms : MS) (d : D) (t : Ty) : Option Bool := match d with
  | .non => some false
  | .bl _ => some (match t with | .bool => true | .int => true | _ => false)
  | .int _ => some (match t with | .int => true | _ => false)
  | .str _ => some (match t with | .str => true | _ => false)
  | .tup _ => some (match t with | .tuple => true | _ => false)
  | .lst _ => some (match t with | .list => true | _ => false)
  | .ro _ => some (match t with | .list => true | _ => false)
  | .ptr n => match ms[n]? with
    | some (.lst _) => some (match t with | .list => true | _ => false)
    | _ => none
@[simp] def isP (t : Ty) (d : D) (ms : MS) : Res D := match isTy ms d t with
  | some b => .ok (.bl b) ms
  | none => .bad
section
variable {K : PySem.W.Frag} {ι : Ct} {H : Hp} {ms : MS} {E : EW}
theorem tyx_of (R : Rel K ι H ms) {d : D} {v : V} (t : Ty) {b : Bool} (e : isTy ms d t = some b) (r : Rp K ι H d v) : ∃ a : String, TyX K H v (.type a) ∧ kitB a t.nm = some b := by
  have lst : ∀ (p : Addr) (xs : List V), SqL K H p xs → TyX K H (.ref p) (.type "list") := fun p xs hq => by
    rcases hq with (hq | ⟨o, hq⟩) | ⟨o, its, n, hk, hc, _⟩
    · exact .base (.lst hq)
    · exact .base (.frz hq)
    · exact .kList hk hc
  cases d with
  | non => cases r; cases e; exact ⟨"NoneType", .base .non, by cases t <;> decide +kernel⟩
  | bl k => cases r; cases e; exact ⟨"bool", .base (.bl k), by cases t <;> decide +kernel⟩
  | int k => cases r; cases e; exact ⟨"int", .base (.int k), by cases t <;> decide +kernel⟩
  | str k => cases r; cases e; exact ⟨"str", .base (.str k), by cases t <;> decide +kernel⟩
  | tup ds =>
    obtain ⟨p, xs, rfl, hq, _⟩ := r
    cases e
    refine ⟨"tuple", ?_, by cases t <;> decide +kernel⟩
    rcases hq with (hq | ⟨o, hq⟩) | ⟨o, its, n, hk, hc, _⟩
    · exact .base (.tup hq)
    · exact .fTuple hq
    · exact .kTuple hk hc
  | lst ds => obtain ⟨p, xs, rfl, rs, hq⟩ := R.rl (d := .lst ds) rfl r; cases e; exact ⟨"list", lst p xs hq, by cases t <;> decide +kernel⟩
  | ro ds => obtain ⟨p, xs, rfl, rs, hq⟩ := R.rl (d := .ro ds) rfl r; cases e; exact ⟨"list", lst p xs hq, by cases t <;> decide +kernel⟩
  | ptr n =>
    unfold isTy at e
    cases q : ms[n]? with
    | none => simp only [q] at e; cases e
    | some c =>
      cases c with
      | lst ds =>
        simp only [q] at e
        obtain ⟨p, xs, rfl, rs, hq⟩ := R.rl (d := .ptr n) (ds := ds) (by unfold rlOf; simp only [q]) r
        cases e
        exact ⟨"list", lst p xs hq, by cases t <;> decide +kernel⟩
      | _ => simp only [q] at e; cases e
variable {X : Cx} {a : Expr} {f : Env → MS → Res D} {p p2 pos : Pos}
theorem boot_isi : bootBuiltins "isinstance" = some (.builtin "isinstance") := by decide +kernel
/-- isinstance(x, T) -/
theorem d_is (t : Ty) {T : Expr} (hg : Gl X "isinstance") (hm : X.mg "isinstance" = none) (hT : PE X T (tC (.ty t.nm))) (ha : DE X E a f)
    (he : starEach [a, T] X.env = (false, eval a X.env) :: starEach [T] X.env := by rfl) (he2 : starEach [T] X.env = (false, eval T X.env) :: starEach [] X.env := by rfl) (hpl : (backTo pos (starEach [T] X.env)).any (·.1) = false := by rfl) :
    DE X E (.Call (.Name "isinstance" p) [a, T] [] pos) (unE f (isP t)) :=
  PE.conv (pe_callB call_isi hg hm boot_isi (pa_cons ha (pa_cons hT pa_nil he2) he) (by decide) (by decide) he hpl) fun σ H Q ⟨ι, env, ms, r, ev, o⟩ => tR_seq r ev o fun ι1 H1 ms1 d x B o1 => by
    unfold isP at o1
    cases q : isTy ms1 d t with
    | none => rw [q] at o1; exact o1.elim
    | some b =>
      rw [q] at o1
      obtain ⟨n, h1, h2⟩ := tyx_of B.rel t q B.r
      exact ⟨x, .ty t.nm, .type n, .type t.nm, b, rfl, .ty _, h1, kit_ty h2, o1 _ ι1 H1 B.rel .refl rfl⟩
end

/-! ### methods -/
@[simp] def cellL (ms : MS) (o : D) : Option (Nat × List D) := match o with
  | .ptr n => match ms[n]? with
    | some (.lst ds) => some (n, ds)
    | _ => none
  | _ => none
theorem cellL_eq {ms : MS} {o : D} {n : Nat} {ds : List D} (h : cellL ms o = some (n, ds)) : o = .ptr n ∧ ms[n]? = some (.lst ds) := by
  cases o with
  | ptr m =>
    unfold cellL at h
    cases q : ms[m]? with
    | none => simp only [q] at h; cases h
    | some c =>
      cases c with
      | lst es => simp only [q] at h; cases h; exact ⟨rfl, q⟩
      | _ => simp only [q] at h; cases h
  | _ => cases h
/-- xs.append(e) of a list that may change -/
@[simp] def appM (fo fe : Env → MS → Res D) (env : Env) (ms : MS) : Res D := (fo env ms).bind fun o ms1 => match cellL ms1 o with
  | none => .bad
  | some _ => (fe env ms1).bind fun d ms2 => match cellL ms2 o with
    | some (n, ds) => if ds.length < LIM then .ok .non (ms2.set n (.lst (ds ++ [d]))) else .bad
    | none => .bad
@[simp] def popM (fo : Env → MS → Res D) (env : Env) (ms : MS) : Res D := (fo env ms).bind fun o ms1 => match cellL ms1 o with
  | some (n, ds) => match ds[ds.length - 1]? with
    | some d => .ok d (ms1.set n (.lst ds.dropLast))
    | none => .bad
  | none => .bad
/-- xs.extend(ys), ys a list -/
@[simp] def extM (fo fe : Env → MS → Res D) (env : Env) (ms : MS) : Res D := (fo env ms).bind fun o ms1 => match cellL ms1 o with
  | none => .bad
  | some _ => (fe env ms1).bind fun d ms2 => match cellL ms2 o with
    | some (n, ds) => match lstOf ms2 d with
      | some es => if ds.length + es.length ≤ LIM then .ok .non (ms2.set n (.lst (ds ++ es))) else .bad
      | none => .bad
    | none => .bad
@[simp] def bitsP (d : D) (ms : MS) : Res D := match d with
  | .int i => .ok (.int (Builtin.Int.intBits i : Nat)) ms
  | _ => .bad
@[simp] def joinE (fo fe : Env → MS → Res D) (env : Env) (ms : MS) : Res D := (fo env ms).bind fun s ms1 => match s with
  | .str z => (fe env ms1).bind fun d ms2 => match (seqOf ms2 d).bind textsOf with
    | some ys => if (ys.map (·.length)).sum + ys.length * z.length ≤ LIM then .ok (.str (Txt.join z ys)) ms2 else .bad
    | none => .bad
  | _ => .bad
@[simp] def upE (fo : Env → MS → Res D) (env : Env) (ms : MS) : Res D := (fo env ms).bind fun s ms1 => match s with
  | .str z => if z.length ≤ 5592405 then .ok (.str (Txt.upper z)) ms1 else .bad
  | _ => .bad
section
variable {X : Cx} {E : EW} {o e : Expr} {fo fe : Env → MS → Res D} {apos pos : Pos}
theorem Rel.cellL {K : PySem.W.Frag} {ι : Ct} {H : Hp} {ms : MS} (R : Rel K ι H ms) {d : D} {v : V} {n : Nat} {ds : List D} (e : cellL ms d = some (n, ds)) (r : Rp K ι H d v) : ∃ p xs, v = .ref p ∧ ι.a[n]? = some p ∧ H p = some (.lst xs) ∧ Rps K ι H ds xs := by
  obtain ⟨rfl, q⟩ := cellL_eq e
  obtain ⟨p, rfl, hn⟩ := r
  obtain ⟨xs, h1, h2⟩ := R.ok n p _ hn q
  exact ⟨p, xs, rfl, hn, h1, h2⟩
theorem seq_tyL {K : PySem.W.Frag} {H : Hp} {p : Addr} {xs : List V} (h : H p = some (.lst xs)) : tyV K "list" (.ref p) H := Or.inl ⟨rfl, xs, SqL.of h⟩
theorem d_append (ho : DE X E o fo) (he : DE X E e fe) (hbase : attributeBase o "append" X.env (eval o X.env) = eval o X.env := by rfl)
    (hfew : (((backTo pos (starEach [e] X.env)).all fun x => !x.1) && (backToKw pos (keywordEach [] X.env)).all (·.1.isSome) && decide ([e].length + ([] : List Keyword).length + (if ([] : List Keyword).isEmpty then 0 else 1) < 30)) = true := by rfl)
    (hline : (apos.endLine == pos.line) = true := by rfl) (hs : starEach [e] X.env = (false, eval e X.env) :: starEach [] X.env := by rfl) (hplain : (backTo pos (starEach [] X.env)).any (·.1) = false := by rfl) :
    DE X E (.Call (.Attribute o "append" apos) [e] [] pos) (appM fo fe) :=
  PE.conv (pe_bm PySem.F.plainAttrs_list PySem.F.slot_list_append PySem.F.type_list_append mt_append ho (a_cons he a_nil hs) (hbase := hbase) (hfew := hfew) (hline := hline) (hs := hs) (hplain := hplain)) fun σ H Q ⟨ι, env, ms, r, ev, o⟩ => by
    refine tR_seq r ev o fun ι1 H1 ms1 d x B o1 => ?_
    cases q1 : cellL ms1 d with
    | none => simp only [q1] at o1; exact o1.elim
    | some z =>
      obtain ⟨n, ds⟩ := z
      simp only [q1] at o1
      obtain ⟨p, xs, rfl, hn, h1, h2⟩ := B.rel.cellL q1 B.r
      refine ⟨seq_tyL h1, ι1, env, ms1, B.rel, B.env, ?_⟩
      unfold consA
      cases q2 : fe env ms1 with
      | bad => simp only [q2] at o1; exact o1
      | exc y ms2 => simp only [q2] at o1; exact o1
      | ok y ms2 =>
        simp only [q2, bind_ok] at o1
        simp only [bind_ok, nilA]
        intro vs ι2 H2 R2 l2 rv
        obtain ⟨v, rfl, ry⟩ := rv.one
        cases q3 : cellL ms2 d with
        | none => simp only [q3] at o1; exact o1.elim
        | some z =>
          obtain ⟨m, es⟩ := z
          simp only [q3] at o1
          obtain ⟨p', ys, e1, hm, h3, h4⟩ := R2.cellL q3 (Rp.mono l2 _ _ B.r)
          cases e1
          by_cases hl : es.length < LIM
          · simp only [if_pos hl] at o1
            have w := Le.write (o := .lst (ys ++ [v])) R2 hm
            refine ⟨p, ys, v, rfl, rfl, h3, by rw [h4.length, ← lim_eq]; exact hl, ?_⟩
            exact o1 _ ι2 _ (R2.write hm ⟨_, upd_same, Rps.mono w _ _ (h4.append (Rps.mk1 ry))⟩) (l2.trans w) rfl
          · simp only [if_neg hl] at o1; exact o1.elim
theorem d_extend (ho : DE X E o fo) (he : DE X E e fe) (hbase : attributeBase o "extend" X.env (eval o X.env) = eval o X.env := by rfl)
    (hfew : (((backTo pos (starEach [e] X.env)).all fun x => !x.1) && (backToKw pos (keywordEach [] X.env)).all (·.1.isSome) && decide ([e].length + ([] : List Keyword).length + (if ([] : List Keyword).isEmpty then 0 else 1) < 30)) = true := by rfl)
    (hline : (apos.endLine == pos.line) = true := by rfl) (hs : starEach [e] X.env = (false, eval e X.env) :: starEach [] X.env := by rfl) (hplain : (backTo pos (starEach [] X.env)).any (·.1) = false := by rfl) :
    DE X E (.Call (.Attribute o "extend" apos) [e] [] pos) (extM fo fe) :=
  PE.conv (pe_bm PySem.F.plainAttrs_list PySem.F.slot_list_extend PySem.F.type_list_extend mt_extend ho (a_cons he a_nil hs) (hbase := hbase) (hfew := hfew) (hline := hline) (hs := hs) (hplain := hplain)) fun σ H Q ⟨ι, env, ms, r, ev, o⟩ => by
    refine tR_seq r ev o fun ι1 H1 ms1 d x B o1 => ?_
    cases q1 : cellL ms1 d with
    | none => simp only [q1] at o1; exact o1.elim
    | some z =>
      obtain ⟨n, ds⟩ := z
      simp only [q1] at o1
      obtain ⟨p, xs, rfl, hn, h1, h2⟩ := B.rel.cellL q1 B.r
      refine ⟨seq_tyL h1, ι1, env, ms1, B.rel, B.env, ?_⟩
      unfold consA
      cases q2 : fe env ms1 with
      | bad => simp only [q2] at o1; exact o1
      | exc y ms2 => simp only [q2] at o1; exact o1
      | ok y ms2 =>
        simp only [q2, bind_ok] at o1
        simp only [bind_ok, nilA]
        intro vs ι2 H2 R2 l2 rv
        obtain ⟨v, rfl, ry⟩ := rv.one
        cases q3 : cellL ms2 d with
        | none => simp only [q3] at o1; exact o1.elim
        | some z =>
          obtain ⟨m, es⟩ := z
          simp only [q3] at o1
          obtain ⟨p', ys, e1, hm, h3, h4⟩ := R2.cellL q3 (Rp.mono l2 _ _ B.r)
          cases e1
          cases q4 : lstOf ms2 y with
          | none => simp only [q4] at o1; exact o1.elim
          | some zs =>
            simp only [q4] at o1
            obtain ⟨b, us, rfl, r5, h5⟩ := R2.lst q4 ry
            by_cases hl : es.length + zs.length ≤ LIM
            · simp only [if_pos hl] at o1
              have w := Le.write (o := .lst (ys ++ us)) R2 hm
              refine ⟨p, b, ys, us, rfl, rfl, h3, h5, by rw [h4.length, r5.length, ← lim_eq]; exact hl, ?_⟩
              exact o1 _ ι2 _ (R2.write hm ⟨_, upd_same, Rps.mono w _ _ (h4.append r5)⟩) (l2.trans w) rfl
            · simp only [if_neg hl] at o1; exact o1.elim
theorem d_pop (ho : DE X E o fo) (hbase : attributeBase o "pop" X.env (eval o X.env) = eval o X.env := by rfl)
    (hline : (apos.endLine == pos.line) = true := by rfl) : DE X E (.Call (.Attribute o "pop" apos) [] [] pos) (popM fo) :=
  PE.conv (pe_bm0 PySem.F.plainAttrs_list PySem.F.slot_list_pop PySem.F.type_list_pop mt_pop ho (hbase := hbase) (hline := hline)) fun σ H Q ⟨ι, env, ms, r, ev, o⟩ => by
    refine tR_seq r ev o fun ι1 H1 ms1 d x B o1 => ?_
    cases q1 : cellL ms1 d with
    | none => simp only [q1] at o1; exact o1.elim
    | some z =>
      obtain ⟨n, ds⟩ := z
      simp only [q1] at o1
      obtain ⟨p, xs, rfl, hn, h1, h2⟩ := B.rel.cellL q1 B.r
      refine ⟨seq_tyL h1, ?_⟩
      cases q2 : ds[ds.length - 1]? with
      | none => simp only [q2] at o1; exact o1.elim
      | some y =>
        simp only [q2] at o1
        obtain ⟨v, e1, rv⟩ := h2.get q2
        have w := Le.write (o := .lst xs.dropLast) B.rel hn
        refine ⟨p, xs, v, rfl, rfl, h1, by rw [h2.length]; exact e1, ?_⟩
        exact o1 _ ι1 _ (B.rel.write hn ⟨_, upd_same, Rps.mono w _ _ h2.dropLast⟩) w (Rp.mono w _ _ rv)
theorem d_bits (ho : DE X E o fo) (hbase : attributeBase o "bit_length" X.env (eval o X.env) = eval o X.env := by rfl) (hline : (apos.endLine == pos.line) = true := by rfl) : DE X E (.Call (.Attribute o "bit_length" apos) [] [] pos) (unE fo bitsP) :=
  PE.conv (pe_bits ho hbase hline) fun σ H Q ⟨ι, env, ms, r, ev, o⟩ => tR_seq r ev o fun ι1 H1 ms1 d x B o1 => by
    cases d with
    | int i => exact ⟨i, B.r, o1 _ ι1 H1 B.rel .refl rfl⟩
    | _ => exact o1.elim
theorem d_join (ho : DE X E o fo) (he : DE X E e fe) (hs : starEach [e] X.env = [(false, eval e X.env)] := by rfl) (hbase : attributeBase o "join" X.env (eval o X.env) = eval o X.env := by rfl) (hline : (apos.endLine == pos.line) = true := by rfl) :
    DE X E (.Call (.Attribute o "join" apos) [e] [] pos) (joinE fo fe) :=
  PE.conv (pe_join ho he hs hbase hline) fun σ H Q ⟨ι, env, ms, r, ev, o⟩ => tR_seq r ev o fun ι1 H1 ms1 d x B o1 => by
    cases d with
    | str z =>
      refine ⟨⟨z, B.r⟩, ?_⟩
      refine tR_seq B.rel B.env o1 fun ι2 H2 ms2 y v B2 o2 => ?_
      cases q : seqOf ms2 y with
      | none => simp only [q] at o2; exact o2.elim
      | some es =>
        cases q2 : textsOf es with
        | none =>
          have : (seqOf ms2 y).bind textsOf = none := by rw [q]; exact q2
          simp only [this] at o2; exact o2.elim
        | some ys =>
          have : (seqOf ms2 y).bind textsOf = some ys := by rw [q]; exact q2
          simp only [this] at o2
          by_cases hl : (ys.map (·.length)).sum + ys.length * z.length ≤ LIM
          · simp only [if_pos hl] at o2
            obtain ⟨p, xs, rfl, rs, hq⟩ := B2.rel.seq q B2.r
            rw [textsOf_eq q2] at rs
            rw [rs.strs] at hq
            exact ⟨z, p, ys, B.r, rfl, hq, hl, o2 _ ι2 H2 B2.rel .refl rfl⟩
          · simp only [if_neg hl] at o2; exact o2.elim
    | _ => exact o1.elim
theorem d_upper (ho : DE X E o fo) (hbase : attributeBase o "upper" X.env (eval o X.env) = eval o X.env := by rfl) (hline : (apos.endLine == pos.line) = true := by rfl) :
    DE X E (.Call (.Attribute o "upper" apos) [] [] pos) (upE fo) :=
  PE.conv (pe_upper ho hbase hline) fun σ H Q ⟨ι, env, ms, r, ev, o⟩ => tR_seq r ev o fun ι1 H1 ms1 d x B o1 => by
    cases d with
    | str z =>
      by_cases hl : z.length ≤ 5592405
      · simp only [if_pos hl] at o1
        exact ⟨⟨z, B.r⟩, z, B.r, rfl, hl, o1 _ ι1 H1 B.rel .refl rfl⟩
      · simp only [if_neg hl] at o1; exact o1.elim
    | _ => exact o1.elim
end
end DL

set_option maxHeartbeats 1000000
namespace DL
open PySem PySem.Spec L2
open PyProof.Rows hiding St

/-! ### truth -/
@[simp] def tru (ms : MS) (d : D) : Option Bool := match d with
  | .non => some false
  | .bl b => some b
  | .int i => some (i != 0)
  | .str y => if y.length ≤ LIM then some ((y.length : Int) != 0) else none
  | d => (seqOf ms d).map fun xs => !xs.isEmpty
@[simp] def truT (f : Env → MS → Res D) (env : Env) (ms : MS) : Res Bool := (f env ms).bind fun d ms1 => match tru ms1 d with
  | some b => .ok b ms1
  | none => .bad
@[simp] def truE (f : Env → MS → Res D) (env : Env) (ms : MS) : Res D := (f env ms).bind fun d ms1 => match tru ms1 d with
  | some b => .ok (.bl (!b)) ms1
  | none => .bad
/-! and, or by truth, as values -/
@[simp] def andV (f g : Env → MS → Res D) (env : Env) (ms : MS) : Res D := (f env ms).bind fun d ms1 => match tru ms1 d with
  | some b => if b = true then g env ms1 else .ok d ms1
  | none => .bad
@[simp] def orV (f g : Env → MS → Res D) (env : Env) (ms : MS) : Res D := (f env ms).bind fun d ms1 => match tru ms1 d with
  | some b => if b = true then .ok d ms1 else g env ms1
  | none => .bad
section
variable {K : PySem.W.Frag} {ι : Ct} {H : Hp} {ms : MS} {E : EW}
theorem Rel.tru (R : Rel K ι H ms) {d : D} {v : V} {b : Bool} (e : tru ms d = some b) (r : Rp K ι H d v) : TruV K v H b := by
  have sq : ∀ es, seqOf ms d = some es → (some (!es.isEmpty) = some b) → TruV K v H b := fun es q e => by
    obtain ⟨p, xs, rfl, rs, hq⟩ := R.seq q r
    cases e
    have em : es.isEmpty = xs.isEmpty := by
      have := rs.length
      cases es <;> cases xs <;> first | rfl | (simp at this)
    rcases hq with hq | hq
    · exact .inl ⟨xs, hq, by rw [em]⟩
    · exact .inr (.inl ⟨xs, hq, by rw [em]⟩)
  have gen : (seqOf ms d).map (fun xs => !xs.isEmpty) = some b → TruV K v H b := fun e => by
    cases q : seqOf ms d with
    | none => rw [q] at e; cases e
    | some es => rw [q] at e; exact sq es q e
  cases d with
  | non => cases e; cases r; exact rfl
  | bl k => cases e; cases r; exact rfl
  | int i => cases e; cases r; exact rfl
  | str y =>
    cases r
    unfold DL.tru at e
    by_cases h : y.length ≤ LIM
    · simp only [if_pos h] at e
      cases e
      exact ⟨by rw [← lim_eq]; exact h, rfl⟩
    · simp only [if_neg h] at e; cases e
  | tup _ => exact gen e
  | lst _ => exact gen e
  | ro _ => exact gen e
  | ptr _ => exact gen e
variable {X : Cx} {a b : Expr} {rest : List Expr} {f g : Env → MS → Res D} {pos : Pos}
theorem t_tru (ha : DE X E a f) (he : ∀ whole, isTrue a X.env whole = (do let v ← whole; standAt a.pos; holding [v] (truthy v)) := by intro _; rfl) : DT X E a (truT f) :=
  PT.conv (pt_truth ha he) fun σ H Q ⟨ι, env, ms, r, ev, o⟩ => tR_seq r ev o fun ι1 H1 ms1 d x B o1 => by
    cases q : tru ms1 d with
    | none => simp only [q] at o1; exact o1.elim
    | some k => simp only [q] at o1; exact ⟨k, B.rel.tru q B.r, o1 _ ι1 H1 B.rel .refl rfl⟩
theorem d_notV (ha : DE X E a f) : DE X E (.UnaryOp .Not a pos) (truE f) :=
  PE.conv (pe_notT ha) fun σ H Q ⟨ι, env, ms, r, ev, o⟩ => tR_seq r ev o fun ι1 H1 ms1 d x B o1 => by
    cases q : tru ms1 d with
    | none => simp only [q] at o1; exact o1.elim
    | some k => simp only [q] at o1; exact ⟨k, B.rel.tru q B.r, o1 _ ι1 H1 B.rel .refl rfl⟩
theorem d_andV (ha : DE X E a f) (hb : DE X E (.BoolOp .And (b :: rest) pos) g) : DE X E (.BoolOp .And (a :: b :: rest) pos) (andV f g) :=
  PE.conv (pe_andT ha hb) fun σ H Q ⟨ι, env, ms, r, ev, o⟩ => tR_seq r ev o fun ι1 H1 ms1 d x B o1 => by
    cases q : tru ms1 d with
    | none => simp only [q] at o1; exact o1.elim
    | some k =>
      simp only [q] at o1
      refine ⟨k, B.rel.tru q B.r, ?_⟩
      cases k with
      | true => exact ⟨ι1, env, ms1, B.rel, B.env, o1⟩
      | false => exact o1 _ ι1 H1 B.rel .refl B.r
theorem d_orV (ha : DE X E a f) (hb : DE X E (.BoolOp .Or (b :: rest) pos) g) : DE X E (.BoolOp .Or (a :: b :: rest) pos) (orV f g) :=
  PE.conv (pe_orT ha hb) fun σ H Q ⟨ι, env, ms, r, ev, o⟩ => tR_seq r ev o fun ι1 H1 ms1 d x B o1 => by
    cases q : tru ms1 d with
    | none => simp only [q] at o1; exact o1.elim
    | some k =>
      simp only [q] at o1
      refine ⟨k, B.rel.tru q B.r, ?_⟩
      cases k with
      | true => exact o1 _ ι1 H1 B.rel .refl B.r
      | false => exact ⟨ι1, env, ms1, B.rel, B.env, o1⟩

/-! ### a < b < c -/
@[simp] def chE (f g h : Env → MS → Res D) (p q : D → D → MS → Res D) (env : Env) (ms : MS) : Res D := (f env ms).bind fun a ms1 => (g env ms1).bind fun b ms2 => (p a b ms2).bind fun z ms3 => match z with
  | .bl k => if k = true then (h env ms3).bind fun c ms4 => q b c ms4 else .ok (.bl false) ms3
  | _ => .bad
theorem chain_read {r r' : R2} {p q : D → D → MS → Res D} {h : Env → MS → Res D} (hp : ∀ E, P2 K E r p) (hq : P2 K E r' q) {σ : St} {Q : VK} (o : tD K E (chE f g h p q) σ H Q) : tChain r r' (tD K E f) (tD K E g) (tD K E h) σ H Q := by
  obtain ⟨ι, env, ms, r0, ev, o⟩ := o
  refine tR_seq r0 ev o fun ι1 H1 ms1 a x B1 o1 => ?_
  refine tR_seq B1.rel B1.env o1 fun ι2 H2 ms2 b y B2 o2 => ?_
  refine hp E ι2 H2 ms2 a b x y _ B2.rel (Rp.mono B2.le _ _ B1.r) B2.r ?_
  cases e : p a b ms2 with
  | bad => rw [e] at o2; exact o2
  | exc z ms3 => rw [e] at o2; exact o2
  | ok z ms3 =>
    rw [e] at o2
    intro v ι3 H3 R3 l3 rz
    have o3 := Out.from l3 o2
    cases z with
    | bl k =>
      refine ⟨k, rz, ?_⟩
      have ev3 := B2.env.mono l3
      cases k with
      | false => exact o3 _ ι3 H3 R3 .refl rfl
      | true =>
        refine tR_seq (ι := ι3) R3 ev3 o3 fun ι4 H4 ms4 c w B4 o4 => ?_
        exact hq ι4 H4 ms4 b c y w Q B4.rel (Rp.mono (l3.trans B4.le) _ _ B2.r) B4.r o4
    | _ => exact o3.elim
theorem d_chain {op op' : CmpOp} {c : Expr} {h : Env → MS → Res D} {r r' : R2} {p q : D → D → MS → Res D} (ho : OpR X (compareOp op) r) (ho' : OpR X (compareOp op') r') (hp : ∀ E, P2 X.K E r p) (hq : P2 X.K E r' q) (ha : DE X E a f) (hb : DE X E b g) (hc : DE X E c h)
    (hm : lastMarks [op, op'] [b, c] = false := by with_unfolding_all rfl) : DE X E (.Compare a [op, op'] [b, c] pos) (chE f g h p q) := PE.conv (pe_chain ho ho' ha hb hc hm) fun _ _ _ o => chain_read hp hq o
theorem t_chain {op op' : CmpOp} {c : Expr} {h : Env → MS → Res D} {r r' : R2} {p q : D → D → MS → Res D} (ho : OpR X (compareOp op) r) (ho' : OpR X (compareOp op') r') (hp : ∀ E, P2 X.K E r p) (hq : P2 X.K E r' q) (ha : DE X E a f) (hb : DE X E b g) (hc : DE X E c h)
    (hm : lastMarks [op, op'] [b, c] = false := by with_unfolding_all rfl) : DT X E (.Compare a [op, op'] [b, c] pos) (valT (chE f g h p q)) := PT.conv (pt_chain ho ho' ha hb hc hm) fun _ _ _ o => chain_read hp hq (val_test o)

/-! ### t[::-1] of a text -/
def revS (z : Str) : Str := ⟨z.cps.toList.reverse.toArray⟩
@[simp] def revE (f : Env → MS → Res D) (env : Env) (ms : MS) : Res D := (f env ms).bind fun d ms1 => match d with
  | .str z => if z.length ≤ LIM then .ok (.str (revS z)) ms1 else .bad
  | _ => .bad
theorem rev_text (z : Str) (u : Tok) : Txt.sliceBy z none none (-1, u) = revS z := by
  have e : (Txt.sliceBy z none none (-1, u)).cps.toList = z.cps.toList.reverse := by
    rw [step_rev_list]
    apply List.ext_getElem?
    intro i
    by_cases hi : i < z.cps.toList.length
    · have hz : z.length = z.cps.toList.length := by simp [Str.length]
      rw [List.getElem?_map, List.getElem?_range (by rw [hz]; exact hi), List.getElem?_reverse hi, hz]
      have : z.cps.size - 1 - i < z.cps.size := by simp at hi ⊢; omega
      simp [Array.getD, this]
    · rw [List.getElem?_eq_none (by simp [Str.length] at hi ⊢; omega), List.getElem?_eq_none (by simp at hi ⊢; omega)]
  have e2 : (Txt.sliceBy z none none (-1, u)).cps = (revS z).cps := by
    apply Array.toList_inj.mp
    rw [e]
    simp [revS]
  cases h : Txt.sliceBy z none none (-1, u) with
  | mk c => rw [h] at e2; simp only at e2; rw [e2]
theorem pe_revS {k : Nat} {p1 p2 p3 : Pos} {ta : TE} (ha : PE X a ta) : PE X (.Subscript a (.Slice none none (some (.UnaryOp .USub (.Constant (.int 1) k p1) p2)) p3) pos) (fun σ H Q => ta σ H fun x H1 => ∃ z, x = .str z ∧ z.length ≤ sizeLine ∧ Q (.str (revS z)) H1) := by
  refine ⟨fun pins s σ H Q I h => Subscript_ (thn (ha.run pins s σ H _ I h) fun v s1 ⟨x, H1, I1, r1, z, ex, hz, q⟩ => ?_)⟩
  subst ex
  obtain ⟨t, rfl⟩ := r1
  have one : PO X (some (.UnaryOp .USub (.Constant (.int 1) k p1) p2)) (tPart (tUn (rU fun i => .int (-i)) (tC (.int 1)))) := po_some (pe_un un_neg pe_int)
  refine wpAny_Slice (thn (po_none.run pins s1 σ H1 (fun o G => o = none ∧ G = H1) I1 ⟨rfl, rfl⟩) fun vl s2 ⟨l, H2, I2, pl, el, e2⟩ => thn (po_none.run pins s2 σ H2 (fun o G => o = none ∧ G = H1) I2 ⟨rfl, e2⟩) fun vu s3 ⟨u, H3, I3, pu, eu, e3⟩ => thn (one.run pins s3 σ H3 (fun o G => o = some (-1) ∧ G = H1) I3 ⟨1, rfl, -1, rfl, rfl, e3⟩) fun vs s4 ⟨o, H4, I4, ps, eo, e4⟩ => ?_)
  subst el; subst eu; subst eo; subst e4
  obtain ⟨l', rfl, hl'⟩ := IsPart.raw pl
  obtain ⟨u', rfl, hu'⟩ := IsPart.raw pu
  obtain ⟨s', rfl, hs'⟩ := IsPart.raw ps
  cases l' with
  | some _ => cases hl'
  | none =>
    cases u' with
    | some _ => cases hu'
    | none =>
      cases s' with
      | none => cases hs'
      | some st =>
        obtain ⟨j, uj⟩ := st
        obtain rfl : j = -1 := by
          have z : some j = some (-1 : Int) := by first | exact hs'.symm | exact hs'
          exact Option.some.inj z
        have I5 : Inv X pins σ H4 { s4 with heap := s4.heap.push { cls := .type "slice", data := .fields #[partValue none, partValue none, partValue (some (-1, uj))] } } := I4.kept (t' := s4.toks) fun b ob q => Heap.get?_push_of_some _ q
        refine tail_any (ops := [.ref s4.heap.objs.size, .str z t]) (typeIs_str _ _ _) F.slot_str_getitem.lookup ?_ (by with_unfolding_all rfl)
        refine wpAny_getItem_str_slice (l := none) (u := none) (st := some (-1, uj)) ⟨_, Heap.get?_push_size _ rfl, rfl, rfl⟩ (by rfl) ?_
        refine post_val_or_str ⟨Nat.le_trans (Txt.sliceBy_le z none none (-1, uj) (by show (-1 : Int) ≠ 0; decide)) hz, fun t' c => ?_⟩
        show EP X pins σ Q (Value.str (Txt.sliceBy z none none (-1, uj)) t') _
        rw [rev_text]
        exact ⟨.str (revS z), H4, I5.tok c, ⟨t', rfl⟩, q⟩
theorem d_revS {k : Nat} {p1 p2 p3 : Pos} (ha : DE X E a f) : DE X E (.Subscript a (.Slice none none (some (.UnaryOp .USub (.Constant (.int 1) k p1) p2)) p3) pos) (revE f) :=
  PE.conv (pe_revS ha) fun σ H Q ⟨ι, env, ms, r, ev, o⟩ => tR_seq r ev o fun ι1 H1 ms1 d x B o1 => by
    cases d with
    | str z =>
      by_cases hl : z.length ≤ LIM
      · simp only [if_pos hl] at o1
        exact ⟨z, B.r, by rw [← lim_eq]; exact hl, o1 _ ι1 H1 B.rel .refl rfl⟩
      · simp only [if_neg hl] at o1; exact o1.elim
    | _ => exact o1.elim

/-! ### x op= e of a name -/
@[simp] def augS (i : Nat) (f : Env → MS → Res D) (p : D → D → MS → Res D) : SF := fun env ms => match env[i]? with
  | some (some a) => (f env ms).bind fun b ms1 => (p a b ms1).bind fun d ms2 => .ok (.nx, env.set i (some d)) ms2
  | _ => .bad
theorem s_aug {i : Nat} {x : Str} {e : Expr} {op : Operator} {pos' : Pos} {r : R2} {p : D → D → MS → Res D} (ho : OpR X (inplaceOp op) r) (hp : P2 X.K E r p) (hN : X.N.Nodup) (hi : X.N[i]? = some x) (hx : Loc X.env.scope x) (he : DE X E e f)
    (hf : X.fn x = true ∨ X.env.scope.names.lookup x = some .local := by first | exact .inl rfl | exact .inr rfl | assumption) : DS X E (.AugAssign (.Name x pos') op e pos) (augS i f p) :=
  PS.conv (ps_aug hN hi hx he ho hf) fun σ H D ⟨ι, env, ms, r, ev, o⟩ => by
    unfold augS at o
    cases q : env[i]? with
    | none => rw [q] at o; exact o.elim
    | some d =>
      cases d with
      | none => rw [q] at o; exact o.elim
      | some a =>
        rw [q] at o
        obtain ⟨v, e1, e2⟩ := ev.2 i a q
        refine ⟨v, e1, tR_seqS r ev o fun ι1 H1 ms1 b y B o1 => ?_⟩
        refine hp ι1 H1 ms1 a b v y _ B.rel (Rp.mono B.le _ _ e2) B.r ?_
        cases q2 : p a b ms1 with
        | bad => rw [q2] at o1; exact o1
        | exc z ms2 => rw [q2] at o1; exact o1
        | ok d ms2 =>
          rw [q2] at o1
          exact fun w ι2 H2 R2 l2 rd => o1 _ ι2 H2 R2 l2 ((B.env.mono l2).set rd i)
@[simp] def iaddD : D → D → MS → Res D
  | .int i, .int j, ms => .ok (.int (i + j)) ms
  | .str i, .str j, ms => if i.length + j.length ≤ LIM then .ok (.str (i ++ j)) ms else .bad
  | _, _, _ => .bad
theorem q_iadd : P2 K E (fun x y H Q => rI0 (fun i j => .int (i + j)) x y H Q ∨ (∃ i j, x = .str i ∧ y = .str j ∧ i.length + j.length ≤ sizeLine ∧ Q (.str (i ++ j)) H)) iaddD := by
  intro ι H ms a b x y Q R ra rb o
  by_cases h : (∃ i j, a = .int i ∧ b = .int j)
  · obtain ⟨i, j, rfl, rfl⟩ := h
    exact .inl ⟨_, _, ra, rb, o _ ι H R .refl rfl⟩
  · by_cases h2 : (∃ i j, a = .str i ∧ b = .str j)
    · obtain ⟨i, j, rfl, rfl⟩ := h2
      have o' : Out K E (Rp K) ι H (if i.length + j.length ≤ LIM then .ok (.str (i ++ j)) ms else .bad) Q := o
      by_cases h : i.length + j.length ≤ LIM
      · rw [if_pos h] at o'
        exact .inr ⟨i, j, ra, rb, by rw [← lim_eq]; exact h, o' _ ι H R .refl rfl⟩
      · rw [if_neg h] at o'; exact o'.elim
    · have : iaddD a b ms = .bad := by
        cases a <;> cases b <;> first | rfl | exact (h ⟨_, _, rfl, rfl⟩).elim | exact (h2 ⟨_, _, rfl, rfl⟩).elim
      rw [this] at o
      exact o.elim
theorem op_iadd {X : Cx} : OpR X (inplaceOp .Add) (fun x y H Q => rI0 (fun i j => .int (i + j)) x y H Q ∨ (∃ i j, x = .str i ∧ y = .str j ∧ i.length + j.length ≤ sizeLine ∧ Q (.str (i ++ j)) H)) := iop_add.or iop_add_str

/-! ### constants of the top -/
theorem d_glob {x : Str} {v : V} {u : Value} {d : D} {pos : Pos} (hg : Gl X x) (hm : X.mg x = some u) (r : RelV v u) (hd : ∀ ι H, Rp X.K ι H d v) (hdb : (x == ("__debug__" : Str)) = false := by decide) : DE X E (.Name x pos) (cE d) := d_c (pe_glob hg hm r hdb) hd
end
end DL

set_option maxHeartbeats 1000000
namespace DL
open PySem PySem.Spec L2
open PyProof.Rows hiding St

/-- the same thing, shut: it is opened by its equation alone -/
noncomputable def shut {α : Type} (a : α) : α := Classical.choose (⟨a, rfl⟩ : ∃ b : α, b = a)
theorem shut_eq {α : Type} (a : α) : shut a = a := Classical.choose_spec (⟨a, rfl⟩ : ∃ b : α, b = a)
/-- a def of the text that keeps to its meaning -/
structure Cal (P : Program) (w : World) (K : PySem.W.Frag) (mg : Str → Option Value) (base : Heap) (k : Nat) (x : Str) (ps : List Str) (sem : List D → MS → Res D) where
  f : Addr
  fd : FuncData
  ok : FnOk P w K mg base CX0 k f fd ps (dSp K ps.length sem)
  g : mg x = some (.ref f)
  kp : PySem.W.keepIn K (.ref f) = true
  b : Binds K fd ps []
section
variable {X : Cx} {E : EW} {k n : Nat} {ps : List Str} {x : Str} {p pos : Pos} {e : Expr} {es : List Expr} {fs : Env → MS → Res (List D)} {sem : List D → MS → Res D}
theorem c_call (C : Cal X.prog X.w X.K X.mg X.base k x ps sem) (hr : Room k X.A) (ha : DA X E (e :: es) fs) (hg : Gl X x := by rfl) (hdb : (x == ("__debug__" : Str)) = false := by decide) (he : starEach (e :: es) X.env = (false, eval e X.env) :: starEach es X.env := by rfl) (hpl : (backTo pos (starEach es X.env)).any (·.1) = false := by rfl)
    (hn : ps.length = n := by rfl) : DE X E (.Call (.Name x p) (e :: es) [] pos) (appE fs (callP n sem)) := by
  subst hn
  exact d_call C.ok hr hg C.g C.kp C.b ha hdb he hpl
theorem c_callK {np m : Nat} {ks : List Str} {ix : List Nat} {kws : List Keyword} {fk : Env → MS → Res (List D)} (C : Cal X.prog X.w X.K X.mg X.base k x ps sem) (hr : Room k X.A) (hb : KwB X.K C.fd ps n ks ix)
    (ha : DA X E (e :: es) fs) (hkw : DK X E kws fk) (hg : Gl X x := by rfl) (hall : (backToKw pos (keywordEach kws X.env)).all (·.1.isSome) = true := by rfl) (hks : (backToKw pos (keywordEach kws X.env)).filterMap (·.1) = ks := by rfl)
    (hdb : (x == ("__debug__" : Str)) = false := by decide) (he : starEach (e :: es) X.env = (false, eval e X.env) :: starEach es X.env := by rfl)
    (hpl : ((backTo pos (starEach (e :: es) X.env)).any (·.1) || (backToKw pos (keywordEach kws X.env)).any (·.1.isNone)) = false := by rfl) (h1 : ps.length = np := by rfl) (h2 : ks.length = m := by rfl) : DE X E (.Call (.Name x p) (e :: es) kws pos) (kwE fs fk (kwP np n m ix sem)) := by
  subst h1; subst h2
  exact d_callK C.ok hr hg C.g C.kp hb ha hkw hall hks hdb he hpl
theorem c_callK0 {np m : Nat} {ks : List Str} {ix : List Nat} {kws : List Keyword} {fk : Env → MS → Res (List D)} (C : Cal X.prog X.w X.K X.mg X.base k x ps sem) (hr : Room k X.A) (hb : KwB X.K C.fd ps 0 ks ix)
    (hkw : DK X E kws fk) (hg : Gl X x := by rfl) (hall : (backToKw pos (keywordEach kws X.env)).all (·.1.isSome) = true := by rfl) (hks : (backToKw pos (keywordEach kws X.env)).filterMap (·.1) = ks := by rfl)
    (hdb : (x == ("__debug__" : Str)) = false := by decide)
    (hpl : ((backTo pos (starEach [] X.env)).any (·.1) || (backToKw pos (keywordEach kws X.env)).any (·.1.isNone)) = false := by rfl) (h1 : ps.length = np := by rfl) (h2 : ks.length = m := by rfl) : DE X E (.Call (.Name x p) [] kws pos) (kwE nilA fk (kwP np 0 m ix sem)) := by
  subst h1; subst h2
  exact d_callK0 C.ok hr hg C.g C.kp hb hkw hall hks hdb hpl
end
def spL (K : PySem.W.Frag) : Sp := fun vs H Q _ => ∃ (a : Addr) (ns : List Int), vs = [.ref a] ∧ ns.length ≤ 63 ∧ Only H ∧ SqL K H a (ns.map V.int) ∧ ∀ H', Q (.bl true) H'
theorem law_ok {P : Program} {w : World} {K : PySem.W.Frag} {mg : Str → Option Value} {base : Heap} {k : Nat} {f : Addr} {fd : FuncData} {x : Str} {sem : List D → MS → Res D} (F : FnOk P w K mg base CX0 k f fd [x] (dSp K 1 sem))
    (h : ∀ ns : List Int, ns.length ≤ 63 → ∃ ms, sem [.ro (ns.map D.int)] [] = .ok (.bl true) ms) : FnOk P w K mg base CX0 k f fd [x] (spL K) :=
  F.imp fun vs H Q _ ⟨a, ns, e, hl, hO, hS, hQ⟩ => by
    obtain ⟨ms, hs⟩ := h ns hl
    subst e
    refine ⟨⟨[], []⟩, [], [.ro (ns.map D.int)], ⟨rfl, List.nodup_nil, fun n p c h1 _ => by simp at h1, fun p hp => by cases hp⟩, Rps.mk1 ⟨a, ns.map V.int, rfl, ?_, Rps.ofInts⟩, rfl, ?_⟩
    · rcases hS with (hS | ⟨o, hS⟩) | hS
      · rcases hO a with z | ⟨o, xs, z⟩
        · rw [hS] at z; cases z
        · rw [hS] at z; cases z
      · exact .inl ⟨o, hS⟩
      · exact .inr hS
    · rw [hs]
      intro v ι' H' _ _ rv
      obtain rfl : v = .bl true := rv
      exact hQ H'
theorem law_walk {l : PySem.W.OpenLaw} {q : Program} {loose : List Str} {XP : (Str → Option Value) → Heap → Prop} {YP : World → Heap → Prop} {d : DefRec} {K : Params → PySem.W.Frag} (k : Nat) {x : Str} (hr : Room k callerA) (hn : l.most = some 63) (hdf : d.params.defaults = [])
    (hY : ∀ (w : World) (h : Heap), YP w h → (K w.params).In h)
    (F : ∀ (w : World) (mg : Str → Option Value) (fa : Addr) (h : Heap), (K w.params).In h → h.Ns mainGlobals mg → mg d.name = some (.ref fa) →
      ∃ fd : FuncData, (∀ (s : Shared) (u : Value), BindsTo s fd ⟨[u], []⟩ [(x, u)]) ∧ ∀ base : Heap, (K w.params).In base → base.Ns mainGlobals mg → FnOk l.prog w (K w.params) mg base CX0 k fa fd [x] (spL (K w.params))) :
    PySem.W.WalkO q loose XP YP l.row.toRowW d [] (fun f vs => PySem.call f vs) :=
  L2.walk_of (n := 63) (k := k) (x := x) (CX := fun _ => CX0) (sp := fun w => spL (K w.params)) hn (by decide) hdf hr hY F (fun _ _ a ns hl hO hS => ⟨a, ns, rfl, hl, hO, hS, fun _ => rfl⟩) fun _ _ _ _ _ z => z
/-- no call is left: nothing is promised -/
theorem none_ok {P : Program} {w : World} {K : PySem.W.Frag} {mg : Str → Option Value} {base : Heap} {k : Nat} {f : Addr} {fd : FuncData} {ps : List Str} {n : Nat} : FnOk P w K mg base CX0 k f fd ps (dSp K n fun _ _ => .bad) := by
  have no : ∀ vs H Q E, ¬ dSp K n (fun _ _ => .bad) vs H Q E := fun vs H Q E ⟨_, _, _, _, _, _, o⟩ => o
  exact ⟨fun vs H Q E h => absurd h (no vs H Q E), fun A outer s H args us vs Q E _ _ _ _ h => absurd h (no vs H Q E)⟩
@[simp] def negD (d : D) (ms : MS) : Res D := match d with
  | .int i => .ok (.int (-i)) ms
  | _ => .bad
theorem d_neg {X : Cx} {E : EW} {a : Expr} {f : Env → MS → Res D} {pos : Pos} (ha : DE X E a f) : DE X E (.UnaryOp .USub a pos) (unE f negD) :=
  PE.conv (pe_un un_neg ha) fun σ H Q ⟨ι, env, ms, r, ev, o⟩ => tR_seq r ev o fun ι1 H1 ms1 d x B o1 => by
    cases d with
    | int i => exact ⟨i, B.r, o1 _ ι1 H1 B.rel .refl rfl⟩
    | _ => exact o1.elim
end DL

set_option maxHeartbeats 1000000
namespace DL
open PySem PySem.Spec L2
open PyProof.Rows hiding St

/-! ### meanings that end well -/
def OK {α : Type} (r : Res α) (Q : α → MS → Prop) : Prop := ∃ a ms, r = .ok a ms ∧ Q a ms
theorem OK.pure {α : Type} {a : α} {ms : MS} {Q : α → MS → Prop} (h : Q a ms) : OK (.ok a ms) Q := ⟨a, ms, rfl, h⟩
@[simp] theorem OK_ok {α : Type} {a : α} {ms : MS} {Q : α → MS → Prop} : OK (.ok a ms) Q ↔ Q a ms := ⟨fun ⟨_, _, e, h⟩ => by cases e; exact h, OK.pure⟩
theorem OK.bind {α β : Type} {r : Res α} {k : α → MS → Res β} {P : α → MS → Prop} {Q : β → MS → Prop} (h : OK r P) (hk : ∀ a ms, P a ms → OK (k a ms) Q) : OK (r.bind k) Q := by
  obtain ⟨a, ms, rfl, p⟩ := h
  exact hk a ms p
theorem OK.mono {α : Type} {r : Res α} {P Q : α → MS → Prop} (h : OK r P) (hq : ∀ a ms, P a ms → Q a ms) : OK r Q := by
  obtain ⟨a, ms, e, p⟩ := h
  exact ⟨a, ms, e, hq a ms p⟩
theorem OK.noExc {α : Type} {r : Res α} {Q : α → MS → Prop} (h : OK r Q) : OK (noExc r) Q := by
  obtain ⟨a, ms, rfl, p⟩ := h
  exact ⟨a, ms, rfl, p⟩

/-! ### loops by an invariant -/
theorem rngNx_eq (lo : Int) (n i : Nat) : rngNx lo n i = nxOf (some ((List.range n).map fun (k : Nat) => D.int (lo + k))) i := by
  unfold rngNx nxOf
  by_cases h : i < n
  · simp [h]
  · rw [if_neg h]
    have : ((List.range n).map fun (k : Nat) => D.int (lo + k))[i]? = none := by simp; omega
    simp only [this]
/-- I between the turns; B behind a break, R at a return -/
theorem for_inv {nx : Nat → MS → WOut} {turn : D → SF} (items : List D) (I : Nat → Env → MS → Prop) (B : Env → MS → Prop) (R : D → MS → Prop) (hnx : ∀ i env ms, i ≤ items.length → I i env ms → nx i ms = nxOf (some items) i)
    (hs : ∀ i x env ms, items[i]? = some x → I i env ms → OK (turn x env ms) fun a ms' => match a.1 with | .nx => I (i + 1) a.2 ms' | .cont => I (i + 1) a.2 ms' | .brk => B a.2 ms' | .ret d => R d ms') :
    ∀ (n i : Nat) (env : Env) (ms : MS), items.length < i + n → i ≤ items.length → I i env ms → OK (forLoop nx turn n i env ms) fun a ms' => match a.1 with | .nx => I items.length a.2 ms' ∨ B a.2 ms' | .ret d => R d ms' | _ => False
  | 0, i, env, ms, h1, h2, _ => absurd h1 (by omega)
  | n + 1, i, env, ms, h1, h2, hI => by
    unfold forLoop
    rw [hnx i env ms h2 hI]
    unfold nxOf
    by_cases hi : i < items.length
    · have e : items[i]? = some items[i] := List.getElem?_eq_getElem hi
      simp only [e]
      refine OK.bind (hs i _ env ms e hI) fun a ms1 h => ?_
      obtain ⟨fl, env1⟩ := a
      cases fl with
      | nx => exact for_inv items I B R hnx hs n (i + 1) env1 ms1 (by omega) hi h
      | cont => exact for_inv items I B R hnx hs n (i + 1) env1 ms1 (by omega) hi h
      | brk => exact OK.pure (.inr h)
      | ret d => exact OK.pure h
    · have e : items[i]? = none := List.getElem?_eq_none (by omega)
      simp only [e]
      have : i = items.length := by omega
      subst this
      exact OK.pure (.inl hI)
theorem comp_inv {nx : Nat → MS → WOut} {step : D → MS → Res (Option D)} (items : List D) (I : Nat → List D → MS → Prop) (hnx : ∀ i acc ms, i ≤ items.length → I i acc ms → nx i ms = nxOf (some items) i) (hl : ∀ i acc ms, i ≤ items.length → I i acc ms → acc.length ≤ i) (hz : items.length ≤ LIM)
    (hs : ∀ i x acc ms, items[i]? = some x → I i acc ms → OK (step x ms) fun o ms' => match o with | none => I (i + 1) acc ms' | some y => I (i + 1) (acc ++ [y]) ms') :
    ∀ (n i : Nat) (acc : List D) (ms : MS), items.length < i + n → i ≤ items.length → I i acc ms → OK (compLoop nx step n i acc ms) fun r ms' => I items.length r ms'
  | 0, i, acc, ms, h1, h2, _ => absurd h1 (by omega)
  | n + 1, i, acc, ms, h1, h2, hI => by
    unfold compLoop
    rw [hnx i acc ms h2 hI]
    unfold nxOf
    by_cases hi : i < items.length
    · have e : items[i]? = some items[i] := List.getElem?_eq_getElem hi
      simp only [e]
      refine OK.bind (hs i _ acc ms e hI) fun o ms1 h => ?_
      cases o with
      | none => exact comp_inv items I hnx hl hz hs n (i + 1) acc ms1 (by omega) hi h
      | some y =>
        have := hl i acc ms h2 hI
        simp only
        rw [if_pos (by omega)]
        exact comp_inv items I hnx hl hz hs n (i + 1) (acc ++ [y]) ms1 (by omega) hi h
    · have e : items[i]? = none := List.getElem?_eq_none (by omega)
      simp only [e]
      have : i = items.length := by omega
      subst this
      exact OK.pure hI
/-- a comprehension whose elements are reckoned without the cells: the list of the values -/
theorem comp_map {nx : Nat → MS → WOut} {step : D → MS → Res (Option D)} {items : List D} {ms : MS} (h : D → D) (hnx : ∀ i, nx i ms = nxOf (some items) i) (hz : items.length ≤ LIM) (hs : ∀ x, x ∈ items → step x ms = .ok (some (h x)) ms) {n : Nat} (hn : items.length < n) :
    compLoop nx step n 0 [] ms = .ok (items.map h) ms := by
  obtain ⟨a, ms1, e, ha, hm⟩ := comp_inv (nx := nx) (step := step) items (fun i acc m => acc = (items.take i).map h ∧ m = ms) (fun i acc m _ hI => by rw [hI.2]; exact hnx i) (fun i acc m hi hI => by rw [hI.1]; simp; omega) hz
    (fun i x acc m hx hI => by
      rw [hI.2, hs x (List.mem_of_getElem? hx)]
      refine OK.pure ⟨?_, rfl⟩
      rw [hI.1, List.take_add_one, hx, List.map_append]
      rfl) n 0 [] ms (by omega) (by omega) ⟨by simp, rfl⟩
  rw [e, hm, ha, List.take_length]
theorem comp_filter {nx : Nat → MS → WOut} {step : D → MS → Res (Option D)} {items : List D} {ms : MS} (h : D → Option D) (hnx : ∀ i, nx i ms = nxOf (some items) i) (hz : items.length ≤ LIM) (hs : ∀ x, x ∈ items → step x ms = .ok (h x) ms) {n : Nat} (hn : items.length < n) :
    compLoop nx step n 0 [] ms = .ok (items.filterMap h) ms := by
  obtain ⟨a, ms1, e, ha, hm⟩ := comp_inv (nx := nx) (step := step) items (fun i acc m => acc = (items.take i).filterMap h ∧ m = ms) (fun i acc m _ hI => by rw [hI.2]; exact hnx i) (fun i acc m hi hI => by rw [hI.1]; exact Nat.le_trans (List.length_filterMap_le ..) (by simp; omega)) hz
    (fun i x acc m hx hI => by
      rw [hI.2, hs x (List.mem_of_getElem? hx)]
      cases q : h x with
      | none =>
        refine OK.pure ⟨?_, rfl⟩
        rw [hI.1, List.take_add_one, hx, List.filterMap_append]
        simp [q]
      | some y =>
        refine OK.pure ⟨?_, rfl⟩
        rw [hI.1, List.take_add_one, hx, List.filterMap_append]
        simp [q]) n 0 [] ms (by omega) (by omega) ⟨by simp, rfl⟩
  rw [e, hm, ha, List.take_length]

@[simp] theorem le_lim_iff (n : Nat) : (n ≤ LIM) = (n ≤ 16777216) := rfl
@[simp] theorem lt_lim_iff (n : Nat) : (n < LIM) = (n < 16777216) := rfl
/-! ### items -/
theorem atI_lit {α : Type} (xs : List α) (i : Nat) : atI xs (i : Int) = xs[i]? := by
  unfold atI ixN
  rw [if_pos (Int.natCast_nonneg i)]
  by_cases h : i < xs.length
  · rw [if_pos (by omega)]
    simp
  · rw [if_neg (by omega), List.getElem?_eq_none (by omega)]
    rfl
@[simp] theorem atI_0 {α : Type} (xs : List α) : atI xs 0 = xs[0]? := atI_lit xs 0
@[simp] theorem atI_1 {α : Type} (xs : List α) : atI xs 1 = xs[1]? := atI_lit xs 1
@[simp] theorem atI_2 {α : Type} (xs : List α) : atI xs 2 = xs[2]? := atI_lit xs 2
@[simp] theorem atI_3 {α : Type} (xs : List α) : atI xs 3 = xs[3]? := atI_lit xs 3
@[simp] theorem atI_4 {α : Type} (xs : List α) : atI xs 4 = xs[4]? := atI_lit xs 4
@[simp] theorem atI_5 {α : Type} (xs : List α) : atI xs 5 = xs[5]? := atI_lit xs 5
@[simp] theorem atI_6 {α : Type} (xs : List α) : atI xs 6 = xs[6]? := atI_lit xs 6
@[simp] theorem boolsOf_comp {α : Type} (f : α → Bool) (l : List α) : boolsOf (l.map (D.bl ∘ f)) = some (l.map f) := by
  rw [← List.map_map, boolsOf_map]
@[simp] theorem boolsOf_fun {α : Type} (f : α → Bool) (l : List α) : boolsOf (l.map fun x => D.bl (f x)) = some (l.map f) := boolsOf_comp f l
theorem atI_in {α : Type} {xs : List α} {i : Int} (h0 : 0 ≤ i) (h : i < xs.length) : ∃ x, atI xs i = some x ∧ x ∈ xs := by
  obtain ⟨k, rfl⟩ := Int.eq_ofNat_of_zero_le h0
  rw [atI_lit]
  have hk : k < xs.length := by omega
  exact ⟨xs[k], List.getElem?_eq_getElem hk, List.getElem_mem hk⟩
end DL

set_option maxHeartbeats 1000000
namespace HT
open PySem PySem.Spec PyProof.Rows
section
variable {prog : Program} {w : World} {A : Around} {E : Value → Shared → Prop} {s : Shared}
theorem rev_adjust (n : Nat) : Builtin.Slice.sliceAdjust none none (-1) (n : Int) = ((n : Int) - 1, -1) := rfl
theorem rev_places (n : Nat) : Builtin.Slice.slicePlaces ((n : Int) - 1) (-1) (-1) = n := by
  unfold Builtin.Slice.slicePlaces
  rw [if_neg (by decide)]
  by_cases h : n = 0
  · subst h; rfl
  · rw [if_pos (by omega)]
    have e : ((n : Int) - 1 - -1 - 1) / - -1 = (n : Int) - 1 := by
      have : (- -1 : Int) = 1 := rfl
      rw [this, Int.ediv_one]
      omega
    rw [e]
    omega
theorem rev_pick (xs : Array Value) : ((List.range xs.size).filterMap fun (k : Nat) => xs[(((xs.size : Int) - 1) + (k : Int) * (-1)).toNat]?) = xs.toList.reverse := by
  have h : ∀ k ∈ List.range xs.size, (fun (k : Nat) => xs[(((xs.size : Int) - 1) + (k : Int) * (-1)).toNat]?) k = (fun k => xs.toList.reverse[k]?) k := by
    intro k hk
    have hk' : k < xs.size := List.mem_range.mp hk
    show xs[(((xs.size : Int) - 1) + (k : Int) * (-1)).toNat]? = xs.toList.reverse[k]?
    rw [List.getElem?_reverse (by simpa using hk')]
    have e : (((xs.size : Int) - 1) + (k : Int) * (-1)).toNat = xs.toList.length - 1 - k := by simp; omega
    rw [e]
    simp
  have cg : ∀ (l : List Nat) (f g : Nat → Option Value), (∀ k ∈ l, f k = g k) → l.filterMap f = l.filterMap g := by
    intro l f g hl
    induction l with
    | nil => rfl
    | cons a l ih => rw [List.filterMap_cons, List.filterMap_cons, hl a (List.mem_cons_self ..), ih fun k hk => hl k (List.mem_cons_of_mem _ hk)]
  have e := cg _ _ _ h
  rw [e]
  apply List.ext_getElem?
  intro i
  have : ∀ (l : List Value), (List.range l.length).filterMap (fun k => l[k]?) = l := by
    intro l
    induction l with
    | nil => rfl
    | cons a l ih =>
      rw [List.length_cons, List.range_succ_eq_map, List.filterMap_cons]
      simp only [List.getElem?_cons_zero, List.filterMap_map]
      congr 1
  have e2 := this xs.toList.reverse
  rw [List.length_reverse, Array.length_toList] at e2
  rw [e2]
theorem slicePart_int {j : Int} {u : Tok} {Q : Option Int → Shared → Prop} (h : Q (some j) s) : wpAny (model prog w) A (Builtin.Slice.slicePartIndex (.int j u)) Q E s := slicePart_ (.int j u) h
theorem sliceApplied_rev {sl : Addr} {u : Tok} {n : Nat} {Q : Int × Int × Nat → Shared → Prop} (hs : s.heap.IsSliceOf sl .none .none (.int (-1) u))
    (h : Q ((n : Int) - 1, -1, n) s) : wpAny (model prog w) A (Builtin.Slice.sliceApplied (.ref sl) (pure (n : Int))) Q E s := by
  obtain ⟨os, hos, hcs, hds⟩ := id hs
  unfold Builtin.Slice.sliceApplied Builtin.Slice.sliceFields
  refine wpAny_bind (wpAny_bind (wpAny_field hos hds (x := .none) rfl (wpAny_bind (wpAny_field hos hds (x := .none) rfl (wpAny_bind (wpAny_field hos hds (x := .int (-1) u) rfl (wpAny_pure ?_)))))))
  refine wpAny_bind (slicePart_int ?_)
  show wpAny _ _ (if ((-1 : Int) == 0) = true then _ else _) _ _ s
  rw [if_neg (by decide)]
  refine wpAny_bind (slicePart_none (wpAny_bind (slicePart_none (wpAny_bind (wpAny_pure ?_)))))
  show wpAny _ _ (match Builtin.Slice.sliceAdjust none none (-1) (n : Int) with | (lo, hi) => pure (lo, (-1 : Int), Builtin.Slice.slicePlaces lo hi (-1))) _ _ s
  rw [rev_adjust n]
  show wpAny _ _ (pure ((n : Int) - 1, (-1 : Int), Builtin.Slice.slicePlaces ((n : Int) - 1) (-1) (-1))) _ _ s
  rw [rev_places]
  exact wpAny_pure h
theorem getItem_tuple_rev {t sl : Addr} {items : Array Value} {u : Tok} {Q : Value → Shared → Prop} (ht : IsTup s.heap t items) (hs : s.heap.IsSliceOf sl .none .none (.int (-1) u))
    (h : Q (.ref s.heap.objs.size) { s with heap := s.heap.push { cls := .type "tuple", data := .seq items.toList.reverse.toArray } })
    (hsz : items.size ≤ sizeLine) : wpAny (model prog w) A (getItem (.ref t) (.ref sl)) Q E s := by
  have htake : sizeOk (.seq items.toList.reverse.toArray) := by
    show items.toList.reverse.toArray.size ≤ sizeLine
    rw [List.size_toArray, List.length_reverse, Array.length_toList]
    omega
  obtain ⟨os, hos, hcs, hds⟩ := id hs
  have hTs : s.TypeIs (.ref sl) "slice" := ⟨os, hos, hcs⟩
  unfold getItem
  try with_reducible refine wpAny_holding ?_
  first | refine wpAny_bind (wpAny_pure ?_) | skip
  refine wpAny_bind (wpAny_sequenceKey ht.typeIs (by decide) ?_)
  refine wpAny_bind (wpAny_callSpecial?_slot (name := Str.ofString "__getitem__") ht.typeIs PyProof.Rows.slot_tuple_getitem
    (wpAny_call_entry PyProof.Rows.slot_tuple_getitem ht.typeIs entry_tuple_getitem ?_ (args_tuple_getitem _ _)))
  show wpAny _ _ (Builtin.Tuple.tupleItemsOf (.ref t) >>= _) _ _ s
  refine wpAny_bind (tupleItemsOf_ ht ?_)
  refine wpAny_bind (wpAny_typeOf hTs ?_)
  rw [if_pos (by decide)]
  refine wpAny_bind (sliceApplied_rev hs ?_)
  have hno : ¬ ((((items.size : Int) - 1) == 0 && (-1 : Int) == 1 && items.size == items.size) = true) := by
    intro q
    rw [Bool.and_eq_true, Bool.and_eq_true] at q
    exact absurd q.1.2 (by decide)
  show wpAny _ _ (if (((items.size : Int) - 1) == 0 && (-1 : Int) == 1 && items.size == items.size) = true then _ else _) _ _ s
  rw [if_neg hno, rev_pick]
  first
    | exact wpAny_bind (m := Builtin.Tuple.tupleExact _) (wpAny_newObj_type (wpAny_pure ⟨_, rfl, wpAny_pure h⟩) htake)
    | exact wpAny_bind (m := Builtin.Tuple.tupleExact _) (wpAny_newObj_type (wpAny_bind (wpAny_pure (wpAny_pure ⟨_, rfl, wpAny_pure h⟩))) htake)
    | exact wpAny_bind (wpAny_bind (m := Builtin.Tuple.tupleExact _) (wpAny_newObj_type (wpAny_pure (wpAny_pure ⟨_, rfl, wpAny_pure h⟩)) htake))
    | exact wpAny_bind (wpAny_bind (m := Builtin.Tuple.tupleExact _) (wpAny_newObj_type (wpAny_pure ⟨_, rfl, wpAny_pure h⟩) htake))
end
end HT
namespace DL
open PySem PySem.Spec L2
open PyProof.Rows hiding St

/-! ### t[::-1] of a tuple -/
@[simp] def revT (f : Env → MS → Res D) (env : Env) (ms : MS) : Res D := (f env ms).bind fun d ms1 => match d with
  | .tup ds => mkTup ds.reverse ms1
  | _ => .bad
theorem vals_reverse {xs : List V} {us : List Value} (r : Vals xs us) : Vals xs.reverse us.reverse := by
  induction r with
  | nil => exact .nil
  | cons a t ih => rw [List.reverse_cons, List.reverse_cons]; exact ih.append (.cons a .nil)
section
variable {X : Cx} {E : EW} {a : Expr} {f : Env → MS → Res D} {pos : Pos}
theorem pe_revT {k : Nat} {p1 p2 p3 : Pos} {ta : TE} (ha : PE X a ta) : PE X (.Subscript a (.Slice none none (some (.UnaryOp .USub (.Constant (.int 1) k p1) p2)) p3) pos) (fun σ H Q => ta σ H fun x H1 => ∃ b xs, x = .ref b ∧ SqT X.K H1 b xs ∧ ∀ p, H1 p = none → Q (.ref p) (upd H1 p (.tup xs.reverse))) := by
  refine ⟨fun pins s σ H Q I h => Subscript_ (thn (ha.run pins s σ H _ I h) fun v s1 ⟨x, H1, I1, r1, b, xs, ex, hx, q⟩ => ?_)⟩
  subst ex
  cases r1
  have one : PO X (some (.UnaryOp .USub (.Constant (.int 1) k p1) p2)) (tPart (tUn (rU fun i => .int (-i)) (tC (.int 1)))) := po_some (pe_un un_neg pe_int)
  refine wpAny_Slice (thn (po_none.run pins s1 σ H1 (fun o G => o = none ∧ G = H1) I1 ⟨rfl, rfl⟩) fun vl s2 ⟨l, H2, I2, pl, el, e2⟩ => thn (po_none.run pins s2 σ H2 (fun o G => o = none ∧ G = H1) I2 ⟨rfl, e2⟩) fun vu s3 ⟨u, H3, I3, pu, eu, e3⟩ => thn (one.run pins s3 σ H3 (fun o G => o = some (-1) ∧ G = H1) I3 ⟨1, rfl, -1, rfl, rfl, e3⟩) fun vs s4 ⟨o, H4, I4, ps, eo, e4⟩ => ?_)
  subst el; subst eu; subst eo; subst e4
  cases pl; cases pu
  cases ps with
  | int j uj =>
    have I5 : Inv X pins σ H4 { s4 with heap := s4.heap.push { cls := .type "slice", data := .fields #[.none, .none, .int (-1) uj] } } := I4.kept (t' := s4.toks) fun b ob q => Heap.get?_push_of_some _ q
    obtain ⟨its, r, ht, hz⟩ := I5.tuple hx
    have hlen : its.toArray.size = xs.length := by rw [List.size_toArray]; exact r.length.symm
    refine tail_any (ops := [.ref b, .ref s4.heap.objs.size]) ht.typeIs PyProof.Rows.slot_tuple_getitem.lookup ?_ (by with_unfolding_all rfl)
    refine HT.getItem_tuple_rev ht (u := uj) (Heap.IsSliceOf.new ..) ?_ (by rw [hlen]; exact hz)
    refine ⟨.ref _, _, I5.laid (t' := s4.toks) (o := .tup xs.reverse) (fun b ob q => Heap.get?_push_of_some _ q) (Nat.le_refl _) ?_, rfl, q _ (I5.hok.fresh (Nat.le_refl _))⟩
    exact ⟨by rw [List.length_reverse]; exact hz, _, vals_reverse r, IsTup.new _ _⟩
theorem d_revT {k : Nat} {p1 p2 p3 : Pos} (ha : DE X E a f) : DE X E (.Subscript a (.Slice none none (some (.UnaryOp .USub (.Constant (.int 1) k p1) p2)) p3) pos) (revT f) :=
  PE.conv (pe_revT ha) fun σ H Q ⟨ι, env, ms, r, ev, o⟩ => tR_seq r ev o fun ι1 H1 ms1 d x B o1 => by
    cases d with
    | tup ds =>
      obtain ⟨b, xs, rfl, hq, rs⟩ := B.r
      exact ⟨b, xs, rfl, hq, (mkTup_ok B.rel rs.reverse o1).2⟩
    | _ => exact o1.elim
end
/-! ### xs.extend(t) of a tuple -/
open PySem.AutoSeq1 in
theorem ext_tup (l b : Addr) (xs ys : Array Value) (n m : Nat) (dd : Option Addr) (sl : Array (Option Value)) (few : Builtin.List.listTooLong (xs.size + ys.size) = false) (hx : xs.size ≤ sizeLine) (hxy : (xs ++ ys).size ≤ sizeLine + 1) :
    Meets (Builtin.«list.extend» ⟨[.ref l, .ref b], []⟩) (fun _ R s => s.heap.get? l = some { cls := .type "list", data := .seq xs n } ∧ s.heap.get? b = some ⟨.type "tuple", dd, .seq ys m, sl⟩ ∧ R (.ok (.ret Value.none)) { s with heap := s.heap.update l (Obj.mapSeq fun x => x ++ ys) }) :=
  .of_wp fun prog w A R s q => by
    obtain ⟨hp, g, d, tk, os⟩ := s
    obtain ⟨atl, atb, end_⟩ := q
    have k1 := idx_int
    have k2 := AutoSeq1.sub_tuple_tuple
    have k3 := AutoSeq1.sub_list_list
    have k4 := AutoSeq1.sub_tuple_list
    have k5 := AutoSeq1.sub_list_tuple
    have hs0 : ¬(!xs.isEmpty && Builtin.List.listTooLong (xs.size + ys.size)) = true := by rw [few, Bool.and_false]; exact Bool.false_ne_true
    wp_walk using (wpAny_updateSeq atl rfl (hz := hx) (_hz' := hxy)), wpAny_loadPart' atl, wpAny_loadPart' atb
    exact ⟨_, rfl, end_⟩

def rExtT (K : PySem.W.Frag) : V → List V → Hp → VK → Prop := fun x vs H Q => ∃ l b xs zs, x = .ref l ∧ vs = [.ref b] ∧ H l = some (.lst xs) ∧ SqT K H b zs ∧ xs.length + zs.length ≤ sizeLine ∧ Q .non (upd H l (.lst (xs ++ zs)))
theorem mt_extT {X : Cx} : MtM X "list.extend" (rExtT X.K) := by
  intro pins s σ H x vs v us Q I rx rv h
  obtain ⟨l, b, xs, zs, rfl, rfl, hH, hB, hz, q⟩ := h
  cases rx
  obtain ⟨u, rfl, ru⟩ := rv.one
  cases ru
  obtain ⟨z, its, n, r, hl, e⟩ := I.lstM hH
  obtain ⟨its2, r2, ⟨⟨oc, dd, od, sl⟩, e2, hc, m, hd⟩, hz2⟩ := I.tuple hB
  simp only at hc hd
  subst hc hd
  have hl2 := r2.length
  have few : Builtin.List.listTooLong (its.toArray.size + its2.toArray.size) = false := notLongL (by rw [List.size_toArray, List.size_toArray]; omega)
  refine call_meets F.slot_list_extend ⟨_, e, rfl⟩ F.entry_list_extend (F.args_list_extend_2 _ _)
    (ext_tup l b its.toArray its2.toArray n m dd sl few (by rw [List.size_toArray]; omega) (by rw [Array.size_append, List.size_toArray, List.size_toArray]; omega)) ⟨e, e2, ?_⟩
  refine ⟨.non, _, I.lset (its' := its ++ its2) hH e (by simp) (r.append r2) ?_, rfl, q⟩
  rw [List.length_append]
  omega
theorem mtOr {X : Cx} {id : String} {r r' : V → List V → Hp → VK → Prop} (h : MtM X id r) (h' : MtM X id r') : MtM X id (fun x vs H Q => r x vs H Q ∨ r' x vs H Q) := by
  intro pins s σ H x vs v us Q I rx rv q
  rcases q with q | q
  · exact h pins s σ H x vs v us Q I rx rv q
  · exact h' pins s σ H x vs v us Q I rx rv q
/-- xs.extend(t), t a tuple or a list -/
@[simp] def extOf (ms : MS) : D → Option (List D)
  | .tup ds => some ds
  | d => lstOf ms d
@[simp] def extA (fo fe : Env → MS → Res D) (env : Env) (ms : MS) : Res D := (fo env ms).bind fun o ms1 => match cellL ms1 o with
  | none => .bad
  | some _ => (fe env ms1).bind fun d ms2 => match cellL ms2 o with
    | some (n, ds) => match extOf ms2 d with
      | some es => if ds.length + es.length ≤ LIM then .ok .non (ms2.set n (.lst (ds ++ es))) else .bad
      | none => .bad
    | none => .bad
section
variable {X : Cx} {E : EW} {o e : Expr} {fo fe : Env → MS → Res D} {apos pos : Pos}
theorem d_extA (ho : DE X E o fo) (he : DE X E e fe) (hbase : attributeBase o "extend" X.env (eval o X.env) = eval o X.env := by rfl)
    (hfew : (((backTo pos (starEach [e] X.env)).all fun x => !x.1) && (backToKw pos (keywordEach [] X.env)).all (·.1.isSome) && decide ([e].length + ([] : List Keyword).length + (if ([] : List Keyword).isEmpty then 0 else 1) < 30)) = true := by rfl)
    (hline : (apos.endLine == pos.line) = true := by rfl) (hs : starEach [e] X.env = (false, eval e X.env) :: starEach [] X.env := by rfl) (hplain : (backTo pos (starEach [] X.env)).any (·.1) = false := by rfl) :
    DE X E (.Call (.Attribute o "extend" apos) [e] [] pos) (extA fo fe) :=
  PE.conv (pe_bm PySem.F.plainAttrs_list PySem.F.slot_list_extend PySem.F.type_list_extend (mtOr mt_extend mt_extT) ho (a_cons he a_nil hs) (hbase := hbase) (hfew := hfew) (hline := hline) (hs := hs) (hplain := hplain)) fun σ H Q ⟨ι, env, ms, r, ev, o⟩ => by
    refine tR_seq r ev o fun ι1 H1 ms1 d x B o1 => ?_
    cases q1 : cellL ms1 d with
    | none => simp only [q1] at o1; exact o1.elim
    | some z =>
      obtain ⟨n, ds⟩ := z
      simp only [q1] at o1
      obtain ⟨p, xs, rfl, hn, h1, h2⟩ := B.rel.cellL q1 B.r
      refine ⟨seq_tyL h1, ι1, env, ms1, B.rel, B.env, ?_⟩
      unfold consA
      cases q2 : fe env ms1 with
      | bad => simp only [q2] at o1; exact o1
      | exc y ms2 => simp only [q2] at o1; exact o1
      | ok y ms2 =>
        simp only [q2, bind_ok] at o1
        simp only [bind_ok, nilA]
        intro vs ι2 H2 R2 l2 rv
        obtain ⟨v, rfl, ry⟩ := rv.one
        cases q3 : cellL ms2 d with
        | none => simp only [q3] at o1; exact o1.elim
        | some z =>
          obtain ⟨m, es⟩ := z
          simp only [q3] at o1
          obtain ⟨p', ys, e1, hm, h3, h4⟩ := R2.cellL q3 (Rp.mono l2 _ _ B.r)
          cases e1
          cases q4 : extOf ms2 y with
          | none => simp only [q4] at o1; exact o1.elim
          | some us =>
            simp only [q4] at o1
            by_cases hl : es.length + us.length ≤ LIM
            · simp only [if_pos hl] at o1
              by_cases ht : ∃ ws, y = .tup ws
              · obtain ⟨ws, rfl⟩ := ht
                cases q4
                obtain ⟨b, zs, rfl, hq, r5⟩ := ry
                have w := Le.write (o := .lst (ys ++ zs)) R2 hm
                refine .inr ⟨p, b, ys, zs, rfl, rfl, h3, hq, by rw [h4.length, r5.length, ← lim_eq]; exact hl, ?_⟩
                exact o1 _ ι2 _ (R2.write hm ⟨_, upd_same, Rps.mono w _ _ (h4.append r5)⟩) (l2.trans w) rfl
              · have q5 : lstOf ms2 y = some us := by
                  cases y with
                  | tup ws => exact (ht ⟨ws, rfl⟩).elim
                  | _ => exact q4
                obtain ⟨b, zs, rfl, r5, hq⟩ := R2.lst q5 ry
                have w := Le.write (o := .lst (ys ++ zs)) R2 hm
                refine .inl ⟨p, b, ys, zs, rfl, rfl, h3, hq, by rw [h4.length, r5.length, ← lim_eq]; exact hl, ?_⟩
                exact o1 _ ι2 _ (R2.write hm ⟨_, upd_same, Rps.mono w _ _ (h4.append r5)⟩) (l2.trans w) rfl
            · simp only [if_neg hl] at o1; exact o1.elim
end
/-! ### xs[a:c] = ys -/
def gSpl (to : TE) (tl th : TO) : TG := fun v σ H Q => to σ H fun o H1 => tl σ H1 fun lo H2 => th σ H2 fun hi H3 => ∃ l b xs ys a c, o = .ref l ∧ v = .ref b ∧ lo = some a ∧ hi = some c ∧ H3 l = some (.lst xs) ∧ H3 b = some (.lst ys) ∧ l ≠ b ∧
  0 ≤ a ∧ a ≤ c ∧ c ≤ xs.length ∧ xs.length + ys.length ≤ sizeLine ∧ Q σ (upd H3 l (.lst (xs.take a.toNat ++ ys ++ xs.drop c.toNat)))
section
variable {X : Cx} {E : EW} {o lo hi : Expr} {pos p2 : Pos}
theorem pg_spl {to : TE} {tl th : TO} (ho : PE X o to) (hl : PO X (some lo) tl) (hh : PO X (some hi) th)
    (ha : ∀ v, assign (.Subscript o (.Slice (some lo) (some hi) none p2) pos) X.env v = (do
      let ov ← holding [v] (eval o X.env)
      let iv ← holding [v, ov] (eval (.Slice (some lo) (some hi) none p2) X.env)
      standAt pos
      holding [v, ov, iv] (setItem ov iv v)
      release [iv, v, ov] []) := by intro _; rfl) : PG X (.Subscript o (.Slice (some lo) (some hi) none p2) pos) (gSpl to tl th) := by
  refine ⟨fun pins s σ H v u Q I r h => ?_⟩
  rw [ha]
  refine wpAny_bind (wpAny_holding (thn (ho.run pins s σ H _ I h) fun ov s1 ⟨x, H1, I1, r1, q1⟩ => ?_))
  refine wpAny_bind (wpAny_holding ?_)
  refine wpAny_Slice (thn (hl.run pins s1 σ H1 _ I1 q1) fun vl s2 ⟨l, H2, I2, pl, q2⟩ => thn (hh.run pins s2 σ H2 _ I2 q2) fun vu s3 ⟨w, H3, I3, pu, q3⟩ => ?_)
  rw [evalPart_none]
  refine wpAny_pure ?_
  have I4 : Inv X pins σ H3 { s3 with heap := s3.heap.push { cls := .type "slice", data := .fields #[vl, vu, .none] } } := I3.kept (t' := s3.toks) fun b ob q => Heap.get?_push_of_some _ q
  obtain ⟨l', b, xs, ys, a, c, rfl, rfl, rfl, rfl, h1, h2, hne, h3, h4, h5, h6, q⟩ := q3
  cases r1
  cases r
  cases pl
  cases pu
  refine wpAny_bind (wpAny_standAt (wpAny_bind (wpAny_holding (set_slice I4 h1 h2 hne (Heap.IsSliceOf.new ..) ⟨_, rfl⟩ ⟨_, rfl⟩ h3 h4 h5 h6 fun s' I5 => ?_))))
  exact wpAny_release ⟨σ, _, I5, q⟩
@[simp] def splT (fo : Env → MS → Res D) (fl fh : Env → MS → Res (Option Int)) : TF := fun d env ms => (fo env ms).bind fun o ms1 => (fl env ms1).bind fun l ms2 => (fh env ms2).bind fun u ms3 => match o with
  | .ptr n => match d with
    | .lst ys => match l with
      | some a => match u with
        | some c => match ms3[n]? with
          | some (.lst ds) => if 0 ≤ a ∧ a ≤ c ∧ c ≤ ds.length ∧ ds.length + ys.length ≤ LIM then .ok env (ms3.set n (.lst (ds.take a.toNat ++ ys ++ ds.drop c.toNat))) else .bad
          | _ => .bad
        | none => .bad
      | none => .bad
    | _ => .bad
  | _ => .bad
theorem g_spl {fo : Env → MS → Res D} {fl fh : Env → MS → Res (Option Int)} (ho : DE X E o fo) (hl : DO X E (some lo) fl) (hh : DO X E (some hi) fh)
    (ha : ∀ v, assign (.Subscript o (.Slice (some lo) (some hi) none p2) pos) X.env v = (do
      let ov ← holding [v] (eval o X.env)
      let iv ← holding [v, ov] (eval (.Slice (some lo) (some hi) none p2) X.env)
      standAt pos
      holding [v, ov, iv] (setItem ov iv v)
      release [iv, v, ov] []) := by intro _; rfl) : DG X E (.Subscript o (.Slice (some lo) (some hi) none p2) pos) (splT fo fl fh) :=
  PG.conv (pg_spl ho hl hh ha) fun v σ H Q ⟨ι, env, ms, d, r, ev, rd, o⟩ => by
    unfold splT at o
    refine ⟨ι, env, ms, r, ev, ?_⟩
    cases q : fo env ms with
    | bad => simp only [q] at o; exact o
    | exc x ms1 => simp only [q] at o; exact o
    | ok a ms1 =>
      simp only [q, bind_ok] at o
      intro x ι1 H1 r1 l1 ra
      refine ⟨ι1, env, ms1, r1, ev.mono l1, ?_⟩
      cases q2 : fl env ms1 with
      | bad => simp only [q2] at o; exact o
      | exc x ms2 => simp only [q2] at o; exact fun ι2 H2 r2 l2 => o ι2 H2 r2 (l1.trans l2)
      | ok b ms2 =>
        simp only [q2, bind_ok] at o
        intro y ι2 H2 r2 l2 rb
        refine ⟨ι2, env, ms2, r2, ev.mono (l1.trans l2), ?_⟩
        cases q4 : fh env ms2 with
        | bad => simp only [q4] at o; exact o
        | exc x ms3 => simp only [q4] at o; exact fun ι3 H3 r3 l3 => o ι3 H3 r3 ((l1.trans l2).trans l3)
        | ok c ms3 =>
          simp only [q4, bind_ok] at o
          intro z ι3 H3 r3 l3 rc
          have l13 := (l1.trans l2).trans l3
          cases a with
          | ptr n =>
            cases d with
            | lst ys =>
              cases b with
              | some i =>
                cases c with
                | some j =>
                  cases hb : ms3[n]? with
                  | none => simp only [hb] at o; exact o.elim
                  | some c =>
                    cases c with
                    | lst ds =>
                      simp only [hb] at o
                      by_cases hg : 0 ≤ i ∧ i ≤ j ∧ j ≤ ds.length ∧ ds.length + ys.length ≤ LIM
                      · simp only [if_pos hg] at o
                        obtain ⟨p, rfl, hn⟩ := Rp.mono (l2.trans l3) _ _ ra
                        obtain ⟨xs, h1, h2⟩ := r3.ok n p _ hn hb
                        obtain ⟨p2, us, rfl, h3, hno, h4⟩ := Rp.mono l13 _ _ rd
                        have hl2 := h2.length
                        have hl4 := h4.length
                        refine ⟨p, p2, xs, us, i, j, rfl, rfl, rb, rc, h1, h3, fun e => hno.1 (e ▸ List.mem_of_getElem? hn), hg.1, hg.2.1, by rw [hl2]; exact hg.2.2.1, by rw [hl2, hl4, ← lim_eq]; exact hg.2.2.2, ?_⟩
                        have w := Le.write (o := .lst (xs.take i.toNat ++ us ++ xs.drop j.toNat)) r3 hn
                        refine o σ ι3 _ (r3.write hn ⟨_, upd_same, Rps.mono w _ _ (((h2.take _).append h4).append (h2.drop _))⟩) (l13.trans w) ((ev.mono l13).mono w)
                      · simp only [if_neg hg] at o; exact o.elim
                    | _ => simp only [hb] at o; exact o.elim
                | none => exact o.elim
              | none => exact o.elim
            | _ => exact o.elim
          | _ => exact o.elim
end
/-! ### range with a step, reversed(range(n)) -/
def rngNx3 (lo c : Int) (n : Nat) (i : Nat) : WOut := if i < n then .item (.int (lo + i * c)) else .stop
theorem rngNx3_eq (lo c : Int) (n i : Nat) : rngNx3 lo c n i = nxOf (some ((List.range n).map fun (k : Nat) => D.int (lo + k * c))) i := by
  unfold rngNx3 nxOf
  by_cases h : i < n
  · simp [h]
  · rw [if_neg h]
    have : ((List.range n).map fun (k : Nat) => D.int (lo + k * c))[i]? = none := by simp; omega
    simp only [this]
def stepN (i j c : Int) : Nat := if i < j then ((j - i - 1) / c + 1).toNat else 0
@[simp] def rngSrc3 (f g h : Env → MS → Res D) (env : Env) (ms : MS) : Res Src := (f env ms).bind fun d ms1 => (g env ms1).bind fun e ms2 => (h env ms2).bind fun e2 ms3 => match d with
  | .int i => match e with
    | .int j => match e2 with
      | .int c => if -(2 ^ 61) ≤ i ∧ i < 2 ^ 61 ∧ -(2 ^ 61) ≤ j ∧ j < 2 ^ 61 ∧ 0 < c ∧ c < 1073741824 then .ok ⟨[], fun k _ => rngNx3 i c (stepN i j c) k, stepN i j c + 1⟩ ms3 else .bad
      | _ => .bad
    | _ => .bad
  | _ => .bad
@[simp] def revSrc1 (f : Env → MS → Res D) (env : Env) (ms : MS) : Res Src := (f env ms).bind fun d ms1 => match d with
  | .int j => if -(2 ^ 62) ≤ j ∧ j < 2 ^ 62 then .ok ⟨[], fun k _ => rngNx3 (0 + (((j - 0).toNat : Nat) : Int) - 1) (-1) (j - 0).toNat k, (j - 0).toNat + 1⟩ ms1 else .bad
  | _ => .bad
theorem rng3_ok {K : PySem.W.Frag} {lo c : Int} {n m : Nat} : JOk K (Itc lo c n) ⟨[], fun i _ => rngNx3 lo c n i, m⟩ [] := fun ι2 H2 ms2 i R2 rd => by
  show JStep K ι2 H2 ms2 (Itc lo c n) i (rngNx3 lo c n i)
  unfold rngNx3
  by_cases h : i < n
  · rw [if_pos h]
    refine ⟨h, fun x H' hy => ?_⟩
    obtain ⟨rfl, rfl⟩ := hy
    exact ⟨R2, .refl, rfl⟩
  · rw [if_neg h]
    exact Nat.le_of_not_lt h
theorem rgC_of {i j c : Int} (h : -(2 ^ 61) ≤ i ∧ i < 2 ^ 61 ∧ -(2 ^ 61) ≤ j ∧ j < 2 ^ 61 ∧ 0 < c ∧ c < 1073741824) : RgC i j c (stepN i j c) := by
  obtain ⟨h1, h2, h3, h4, h5, h6⟩ := h
  have hs : Builtin.Range.rangeSize i j c = stepN i j c := by
    unfold Builtin.Range.rangeSize stepN
    rw [if_pos h5]
    by_cases hij : i < j
    · rw [if_pos hij, if_pos hij]
      have : 0 ≤ (j - i - 1) / c := Int.ediv_nonneg (by omega) (by omega)
      omega
    · rw [if_neg hij, if_neg hij]
      rfl
  refine ⟨by omega, by omega, ?_, hs⟩
  unfold Builtin.Range.small Builtin.Range.rangeFitsLong
  rw [hs]
  have hb : (stepN i j c : Int) ≤ 2 ^ 62 := by
    unfold stepN
    by_cases hij : i < j
    · rw [if_pos hij]
      have h0 : 0 ≤ (j - i - 1) / c := Int.ediv_nonneg (by omega) (by omega)
      have h7 : (j - i - 1) / c ≤ j - i - 1 := Int.ediv_le_self _ (by omega)
      omega
    · rw [if_neg hij]
      decide
  rw [if_pos h5]
  simp only [Bool.and_eq_true, Bool.or_eq_true, decide_eq_true_eq]
  omega
section
variable {X : Cx} {E : EW} {tg a b c : Expr} {f g h : Env → MS → Res D} {p pos p2 pos2 : Pos}
theorem i_rng3 (hg : Gl X "range") (hm : X.mg "range" = none) (ha : DE X E a f) (hb : DE X E b g) (hc : DE X E c h)
    (hs : starEach [a, b, c] X.env = (false, eval a X.env) :: starEach [b, c] X.env := by rfl) (hs2 : starEach [b, c] X.env = (false, eval b X.env) :: starEach [c] X.env := by rfl) (hs3 : starEach [c] X.env = (false, eval c X.env) :: starEach [] X.env := by rfl)
    (hpl : (backTo pos (starEach [b, c] X.env)).any (·.1) = false := by rfl) : DI X E tg (.Call (.Name "range" p) [a, b, c] [] pos) (rngSrc3 f g h) :=
  PI.conv (pi_range3 hg hm (a_cons ha (a_cons hb (a_cons hc a_nil hs3) hs2) hs) hs hpl) fun σ H R ⟨ι, env, ms, r, ev, o⟩ => by
    refine ⟨ι, env, ms, r, ev, ?_⟩
    unfold rngSrc3 at o
    unfold consA
    cases q : f env ms with
    | bad => rw [q] at o; exact o
    | exc x ms1 => rw [q] at o; exact o
    | ok d ms1 =>
      simp only [q, bind_ok] at o
      simp only [bind_ok]
      cases q2 : g env ms1 with
      | bad => rw [q2] at o; exact o
      | exc x ms2 => rw [q2] at o; exact o
      | ok e ms2 =>
        simp only [q2, bind_ok] at o
        simp only [bind_ok]
        cases q3 : h env ms2 with
        | bad => rw [q3] at o; exact o
        | exc x ms3 => rw [q3] at o; exact o
        | ok e2 ms3 =>
          simp only [q3, bind_ok] at o
          simp only [bind_ok, nilA]
          intro vs ι1 H1 R1 l1 rv
          obtain ⟨v, _, rfl, rd, rv⟩ := rv
          obtain ⟨v2, _, rfl, re, rv⟩ := rv
          obtain ⟨v3, rfl, re2⟩ := rv.one
          cases d with
          | int i =>
            cases e with
            | int j =>
              cases e2 with
              | int k =>
                by_cases hh : -(2 ^ 61) ≤ i ∧ i < 2 ^ 61 ∧ -(2 ^ 61) ≤ j ∧ j < 2 ^ 61 ∧ 0 < k ∧ k < 1073741824
                · simp only [if_pos hh] at o
                  cases rd
                  cases re
                  cases re2
                  exact ⟨i, j, k, _, rfl, rgC_of hh, o _ ι1 H1 [] R1 l1 rfl rng3_ok⟩
                · simp only [if_neg hh] at o; exact o.elim
              | _ => exact o.elim
            | _ => exact o.elim
          | _ => exact o.elim
theorem i_rev1 (hg : Gl X "reversed") (hm : X.mg "reversed" = none) (hg2 : Gl X "range") (hm2 : X.mg "range" = none) (ha : DE X E a f)
    (hs : starEach [.Call (.Name "range" p) [a] [] pos] X.env = (false, eval (.Call (.Name "range" p) [a] [] pos) X.env) :: starEach [] X.env := by rfl) (hs2 : starEach [a] X.env = (false, eval a X.env) :: starEach [] X.env := by rfl) :
    DI X E tg (.Call (.Name "reversed" p2) [.Call (.Name "range" p) [a] [] pos] [] pos2) (revSrc1 f) :=
  PI.conv (pi_revR hg hm (prg_1 hg2 hm2 ha hs2) hs) fun σ H R ⟨ι, env, ms, r, ev, o⟩ => tR_seqI r ev o fun ι1 H1 ms1 d x B o1 => by
    cases d with
    | int j =>
      by_cases hh : -(2 ^ 62) ≤ j ∧ j < 2 ^ 62
      · simp only [if_pos hh] at o1
        exact ⟨j, B.r, by decide, by decide, hh.1, hh.2, o1 _ ι1 H1 [] B.rel .refl rfl rng3_ok⟩
      · simp only [if_neg hh] at o1; exact o1.elim
    | _ => exact o1.elim
end
/-! ### isinstance(x, (T, U)), tuple(xs), max(ns) -/
@[simp] def is2P (t u : Ty) (d : D) (ms : MS) : Res D := match isTy ms d t with
  | some b => match isTy ms d u with
    | some c => .ok (.bl (b || c)) ms
    | none => .bad
  | none => .bad
theorem tyx_all {K : PySem.W.Frag} {ι : Ct} {H : Hp} {ms : MS} (R : Rel K ι H ms) {d : D} {v : V} {t0 : Ty} {b0 : Bool} (e0 : isTy ms d t0 = some b0) (r : Rp K ι H d v) : ∃ a : String, TyX K H v (.type a) ∧ ∀ (t : Ty) (b : Bool), isTy ms d t = some b → kitB a t.nm = some b := by
  have lst : ∀ (p : Addr) (xs : List V), SqL K H p xs → TyX K H (.ref p) (.type "list") := fun p xs hq => by
    rcases hq with (hq | ⟨o, hq⟩) | ⟨o, its, n, hk, hc, _⟩
    · exact .base (.lst hq)
    · exact .base (.frz hq)
    · exact .kList hk hc
  cases d with
  | non => cases r; exact ⟨"NoneType", .base .non, fun t b e => by cases e; cases t <;> decide +kernel⟩
  | bl k => cases r; exact ⟨"bool", .base (.bl k), fun t b e => by cases e; cases t <;> decide +kernel⟩
  | int k => cases r; exact ⟨"int", .base (.int k), fun t b e => by cases e; cases t <;> decide +kernel⟩
  | str k => cases r; exact ⟨"str", .base (.str k), fun t b e => by cases e; cases t <;> decide +kernel⟩
  | tup ds =>
    obtain ⟨p, xs, rfl, hq, _⟩ := r
    refine ⟨"tuple", ?_, fun t b e => by cases e; cases t <;> decide +kernel⟩
    rcases hq with (hq | ⟨o, hq⟩) | ⟨o, its, n, hk, hc, _⟩
    · exact .base (.tup hq)
    · exact .fTuple hq
    · exact .kTuple hk hc
  | lst ds => obtain ⟨p, xs, rfl, rs, hq⟩ := R.rl (d := .lst ds) rfl r; exact ⟨"list", lst p xs hq, fun t b e => by cases e; cases t <;> decide +kernel⟩
  | ro ds => obtain ⟨p, xs, rfl, rs, hq⟩ := R.rl (d := .ro ds) rfl r; exact ⟨"list", lst p xs hq, fun t b e => by cases e; cases t <;> decide +kernel⟩
  | ptr n =>
    unfold isTy at e0
    cases q : ms[n]? with
    | none => simp only [q] at e0; cases e0
    | some c =>
      cases c with
      | lst ds =>
        obtain ⟨p, xs, rfl, rs, hq⟩ := R.rl (d := .ptr n) (ds := ds) (by unfold rlOf; simp only [q]) r
        refine ⟨"list", lst p xs hq, fun t b e => ?_⟩
        unfold isTy at e
        simp only [q] at e
        cases e
        cases t <;> decide +kernel
      | _ => simp only [q] at e0; cases e0
section
variable {X : Cx} {E : EW} {a : Expr} {f : Env → MS → Res D} {p p2 pos : Pos}
theorem d_is2 (t u : Ty) {T U : Expr} {x1 : Nat} (hg : Gl X "isinstance") (hm : X.mg "isinstance" = none) (hT : PE X T (tC (.ty t.nm))) (hU : PE X U (tC (.ty u.nm))) (ha : DE X E a f)
    (he : starEach [a, .Tuple [T, U] x1 p2] X.env = (false, eval a X.env) :: starEach [.Tuple [T, U] x1 p2] X.env := by rfl) (he2 : starEach [.Tuple [T, U] x1 p2] X.env = (false, eval (.Tuple [T, U] x1 p2) X.env) :: starEach [] X.env := by rfl)
    (he3 : starEach [T, U] X.env = (false, eval T X.env) :: starEach [U] X.env := by rfl) (he4 : starEach [U] X.env = (false, eval U X.env) :: starEach [] X.env := by rfl)
    (hpl : (backTo pos (starEach [.Tuple [T, U] x1 p2] X.env)).any (·.1) = false := by rfl) :
    DE X E (.Call (.Name "isinstance" p) [a, .Tuple [T, U] x1 p2] [] pos) (unE f (is2P t u)) :=
  PE.conv (pe_callB call_isiT hg hm boot_isi (pa_cons ha (pa_cons (pe_tup (pa_cons hT (pa_cons hU pa_nil he4) he3)) pa_nil he2) he) (by decide) (by decide) he hpl) fun σ H Q ⟨ι, env, ms, r, ev, o⟩ => tR_seq r ev o fun ι1 H1 ms1 d x B o1 => by
    unfold is2P at o1
    cases q : isTy ms1 d t with
    | none => rw [q] at o1; exact o1.elim
    | some b =>
      cases q2 : isTy ms1 d u with
      | none => simp only [q, q2] at o1; exact o1.elim
      | some c =>
        simp only [q, q2] at o1
        refine ⟨by rw [sizeLine_eq]; simp, fun tp hp => ?_⟩
        have l := Le.new (o := .tup [V.ty t.nm, V.ty u.nm]) B.rel hp
        have R2 := B.rel.new (o := .tup [V.ty t.nm, V.ty u.nm]) hp
        have r2 := Rp.mono l _ _ B.r
        obtain ⟨n, h1, hall⟩ := tyx_all R2 q r2
        have h2 := hall t b q
        have h4 := hall u c q2
        refine ⟨x, tp, _, .type n, [.type t.nm, .type u.nm], b || c, rfl, upd_same, .cons (.ty _) (.cons (.ty _) .nil), h1, ?_, o1 _ ι1 _ R2 l rfl⟩
        refine kitAny_cons (kit_ty h2) (fun hb => ?_) (fun hb => by rw [hb]; rfl)
        rw [hb, Bool.false_or]
        exact kitAny_cons (kit_ty h4) (fun hc => by rw [hc]; exact kitAny_nil) (fun hc => hc)
end

@[simp] def tupP (ds : List D) (ms : MS) : Res D := match ds with
  | [.tup xs] => .ok (.tup xs) ms
  | [d] => match rlOf ms d with
    | some xs => .ok (.tup xs) ms
    | none => .bad
  | _ => .bad
@[simp] def min2P (ds : List D) (ms : MS) : Res D := match ds with
  | [.int i, .int j] => .ok (.int (if j < i then j else i)) ms
  | _ => .bad
@[simp] def maxP : List D → MS → Res D := lst1 intsOf fun ns ms => match ns.max? with
  | some m => .ok (.int m) ms
  | none => .bad
section
variable {K : PySem.W.Frag} {E : EW}
theorem p_min2 : PC1 K E (fun xs H Q => ∃ i j, xs = [.int i, .int j] ∧ Q (.int (if j < i then j else i)) H) min2P := by
  intro ι H ms ds vs Q R r o
  by_cases h : ∃ i j, ds = [.int i, .int j]
  · obtain ⟨i, j, rfl⟩ := h
    obtain ⟨v, _, rfl, h1, h2⟩ := r
    obtain ⟨v2, rfl, h3⟩ := h2.one
    cases h1
    cases h3
    exact ⟨i, j, rfl, o _ ι H R .refl rfl⟩
  · have : min2P ds ms = .bad := by
      unfold min2P
      split
      · exact (h ⟨_, _, rfl⟩).elim
      · rfl
    rw [this] at o
    exact o.elim
theorem p_tupOf : PC1 K E (fun xs H Q => ∃ p ys, xs = [.ref p] ∧ ((SqL K H p ys ∧ ∀ l, H l = none → Q (.ref l) (upd H l (.tup ys))) ∨ (SqT K H p ys ∧ Q (.ref p) H))) tupP := by
  intro ι H ms ds vs Q R r o
  match ds, r, o with
  | [], r, o => exact o.elim
  | d :: _ :: _, r, o => cases d <;> exact o.elim
  | [d], r, o =>
    obtain ⟨v, rfl, rd⟩ := r.one
    by_cases hs : ∃ z, d = .tup z
    · obtain ⟨z, rfl⟩ := hs
      obtain ⟨p, xs, rfl, hq, rs⟩ := rd
      exact ⟨p, xs, rfl, .inr ⟨hq, o _ ι H R .refl ⟨p, xs, rfl, hq, rs⟩⟩⟩
    · have o' : Out K E (Rp K) ι H (match rlOf ms d with | some xs => .ok (.tup xs) ms | none => .bad) Q := by
        cases d with
        | tup z => exact (hs ⟨z, rfl⟩).elim
        | _ => exact o
      cases e : rlOf ms d with
      | none => rw [e] at o'; exact o'.elim
      | some xs =>
        rw [e] at o'
        obtain ⟨p, ys, rfl, rs, hq⟩ := R.rl e rd
        refine ⟨p, ys, rfl, .inl ⟨hq, fun l hl => ?_⟩⟩
        exact o' _ ι _ (R.new hl) (Le.new R hl) ⟨l, ys, rfl, SqT.of upd_same, Rps.mono (Le.new R hl) _ _ rs⟩
theorem p_max : PC1 K E (rMax K) maxP := fun ι H ms ds vs Q R r o => by
  obtain ⟨a, xs, es, bs, rfl, hq, rs, e, o'⟩ := lst1_ok R r o
  rw [intsOf_eq e] at rs
  rw [rs.ints] at hq
  cases hm : bs.max? with
  | none => simp only [hm] at o'; exact o'.elim
  | some m =>
    simp only [hm] at o'
    have h1 := List.max?_mem hm
    refine ⟨a, bs, rfl, hq, List.length_pos_of_mem h1, fun m' hm' hle => ?_⟩
    have h2 : m' ≤ m := by
      have := (List.max?_eq_some_iff.mp hm).2 m' hm'
      exact this
    have h3 := hle m h1
    have e : m' = m := by omega
    subst e
    exact o' _ ι H R .refl rfl
theorem gtup {p : Addr} {dd : Option Addr} {us : Array Value} {n : Nat} {sl : Array (Option Value)} (ss : List Str) (h : K.lookup p = some ⟨.type "tuple", dd, .seq us n, sl⟩) (hz : us.size ≤ sizeLine) (hv : Vals (ss.map V.str) us.toList) (ι : Ct) (H : Hp) : Rp K ι H (.tup (ss.map D.str)) (.ref p) := by
  have rs : ∀ ss : List Str, Rps K ι H (ss.map D.str) (ss.map V.str) := fun ss => by
    induction ss with
    | nil => rfl
    | cons a t ih => exact ⟨_, _, rfl, rfl, ih⟩
  exact ⟨p, _, rfl, .inr ⟨_, us, n, h, rfl, rfl, hz, hv⟩, rs ss⟩
end
end DL

set_option maxHeartbeats 1000000
namespace DL
open PySem PySem.Spec L2
open PyProof.Rows hiding St

/-! ### data without places -/
mutual
def purD : D → Bool
  | .tup ds => purDs ds
  | .lst ds => purDs ds
  | .ro ds => purDs ds
  | .ptr _ => false
  | _ => true
def purDs : List D → Bool
  | [] => true
  | d :: ds => purD d && purDs ds
end
mutual
theorem frz_pur {b : Nat} {ms : MS} : ∀ d : D, purD d = true → frz b ms d = some d
  | .non, _ => rfl
  | .bl _, _ => rfl
  | .int _, _ => rfl
  | .str _, _ => rfl
  | .tup ds, h => by unfold frz; rw [frzs_pur ds h]; rfl
  | .lst ds, h => by unfold frz; rw [frzs_pur ds h]; rfl
  | .ro ds, h => by unfold frz; rw [frzs_pur ds h]; rfl
  | .ptr _, h => by cases h
theorem frzs_pur {b : Nat} {ms : MS} : ∀ ds : List D, purDs ds = true → frzs b ms ds = some ds
  | [], _ => rfl
  | d :: ds, h => by
    have h' : (purD d && purDs ds) = true := h
    rw [Bool.and_eq_true] at h'
    unfold frzs
    rw [frz_pur d h'.1, frzs_pur ds h'.2]
end
mutual
theorem low_pur {b : Nat} : ∀ d : D, purD d = true → lowD b d = true
  | .non, _ => rfl
  | .bl _, _ => rfl
  | .int _, _ => rfl
  | .str _, _ => rfl
  | .tup ds, h => lows_pur ds h
  | .lst ds, h => lows_pur ds h
  | .ro ds, h => lows_pur ds h
  | .ptr _, h => by cases h
theorem lows_pur {b : Nat} : ∀ ds : List D, purDs ds = true → lowDs b ds = true
  | [], _ => rfl
  | d :: ds, h => by
    have h' : (purD d && purDs ds) = true := h
    rw [Bool.and_eq_true] at h'
    show (lowD b d && lowDs b ds) = true
    rw [low_pur d h'.1, lows_pur ds h'.2]
    rfl
end
theorem purDs_iff {ds : List D} : purDs ds = true ↔ ∀ d ∈ ds, purD d = true := by
  induction ds with
  | nil => exact ⟨fun _ _ h => (by cases h), fun _ => rfl⟩
  | cons d ds ih =>
    show (purD d && purDs ds) = true ↔ _
    rw [Bool.and_eq_true, ih]
    simp
/-- a def whose cells are thrown away at its end -/
theorem runT_ok {N : Nat} {B : SF} {args : List D} {ms : MS} {Q : D → MS → Prop} (h : OK (runF N B args ms) fun d ms1 => ∃ d', frz ms.length ms1 d = some d' ∧ Tidy ms.length ms ms1 ∧ Q d' (ms1.take ms.length)) : OK (runT N B args ms) Q := by
  obtain ⟨d, ms1, e, d', h1, h2, h3⟩ := h
  refine ⟨d', ms1.take ms.length, ?_, h3⟩
  unfold runT
  rw [e]
  simp only [bind_ok, h1, if_pos h2]
/-! ### while by a measure -/
theorem while_inv {t : Env → MS → Res Bool} {B : SF} (I : Nat → Env → MS → Prop) (P : Env → MS → Prop) (R : D → MS → Prop)
    (hs : ∀ n env ms, I n env ms → OK (t env ms) fun b ms1 => if b = true then OK (B env ms1) (fun a ms2 => match a.1 with | .nx => ∃ m, m + 1 = n ∧ I m a.2 ms2 | .cont => ∃ m, m + 1 = n ∧ I m a.2 ms2 | .brk => P a.2 ms2 | .ret d => R d ms2) else P env ms1) :
    ∀ (k n : Nat) (env : Env) (ms : MS), n < k → I n env ms → OK (whileLoop t B k env ms) fun a ms' => match a.1 with | .nx => P a.2 ms' | .ret d => R d ms' | _ => False
  | 0, n, env, ms, h, _ => absurd h (by omega)
  | k + 1, n, env, ms, h, hI => by
    unfold whileLoop
    refine OK.bind (hs n env ms hI) fun b ms1 hb => ?_
    cases b with
    | false => exact OK.pure hb
    | true =>
      simp only [if_true] at hb
      simp only [if_true]
      refine OK.bind hb fun a ms2 h2 => ?_
      obtain ⟨fl, env1⟩ := a
      cases fl with
      | nx =>
        obtain ⟨m, hm, h3⟩ := h2
        exact while_inv I P R hs k m env1 ms2 (by omega) h3
      | cont =>
        obtain ⟨m, hm, h3⟩ := h2
        exact while_inv I P R hs k m env1 ms2 (by omega) h3
      | brk => exact OK.pure h2
      | ret d => exact OK.pure h2

/-! ### statements by their parts -/
section
variable {A B : SF} {env : Env} {ms : MS} {f : Env → MS → Res D} {t : Env → MS → Res Bool} {Q : (Fl × Env) → MS → Prop}
theorem seq_ok (P : Env → MS → Prop) (hA : OK (A env ms) fun a m => a.1 = .nx ∧ P a.2 m) (hB : ∀ e m, P e m → OK (B e m) Q) : OK (seqS A B env ms) Q := by
  unfold seqS
  refine OK.bind hA fun a m h => ?_
  obtain ⟨fl, e⟩ := a
  obtain ⟨h1, h2⟩ := h
  have h1' : fl = .nx := h1
  subst h1'
  exact hB e m h2
theorem comp_ok {mk : List D → MS → Res D} {g : Env → MS → Res Src} {T : TF} {vs : List Nat} {R : D → MS → Prop} (P : Src → MS → Prop) (hg : OK (g env ms) P) (h : ∀ s m, P s m → OK (compLoop s.nx (stepOf T t f (wipeE env vs)) s.n 0 [] m) fun acc m' => OK (mk acc m') R) : OK (compE mk g T t f vs env ms) R := by
  unfold compE
  exact OK.bind hg fun s m hs => OK.bind (OK.noExc (h s m hs)) fun acc m' h' => h'
theorem for_ok {g : Env → MS → Res Src} {T : TF} (P : Src → MS → Prop) (hg : OK (g env ms) P) (h : ∀ s m, P s m → OK (forLoop s.nx (turnOf T B) s.n 0 env m) Q) : OK (forS g T B env ms) Q := by
  unfold forS
  exact OK.bind hg h
theorem set_ok {i : Nat} (h : OK (f env ms) fun d m => Q (.nx, env.set i (some d)) m) : OK (setS i f env ms) Q := by
  unfold setS
  exact OK.bind h fun d m q => OK.pure q
theorem turn_name {i : Nat} {x : D} (h : OK (B (env.set i (some x)) ms) Q) : OK (turnOf (nameT i) B x env ms) Q := h
end
theorem run_ok {N : Nat} {B : SF} {args : List D} {ms : MS} {Q : D → MS → Prop} (h : OK (B (envAt N args) ms) fun a m => match a with | (.nx, _) => Q .non m | (.ret d, _) => Q d m | _ => False) : OK (runF N B args ms) Q := by
  unfold runF
  refine OK.bind h fun a m q => ?_
  obtain ⟨fl, e⟩ := a
  cases fl with
  | nx => exact OK.pure q
  | ret d => exact OK.pure q
  | brk => exact q.elim
  | cont => exact q.elim

/-! ### words -/
inductive Wd where
  | nm (x : Str) | bk (x : Str) | any | ab | em | no
  | th (a b : Wd) | or (a b : Wd) | ag (a : Wd) | mo (a : Wd) | mb (a : Wd)
namespace Wd
@[simp] def toD : Wd → D
  | nm x => .tup [.str "name", .str x]
  | bk x => .tup [.str "back", .str x]
  | any => .tup [.str "any"]
  | ab => .tup [.str "anyback"]
  | em => .tup [.str "empty"]
  | no => .tup [.str "none"]
  | th a b => .tup [.str "then", a.toD, b.toD]
  | or a b => .tup [.str "or", a.toD, b.toD]
  | ag a => .tup [.str "again", a.toD]
  | mo a => .tup [.str "more", a.toD]
  | mb a => .tup [.str "maybe", a.toD]
def dep : Wd → Nat
  | th a b => 1 + max a.dep b.dep
  | or a b => 1 + max a.dep b.dep
  | ag a => 1 + a.dep
  | mo a => 1 + a.dep
  | mb a => 1 + a.dep
  | _ => 1
def size : Wd → Nat
  | th a b => a.size + b.size
  | or a b => a.size + b.size
  | ag a => a.size
  | mo a => a.size
  | mb a => a.size
  | _ => 1
/-- the names of the word keep to P -/
def all (P : Str → Prop) : Wd → Prop
  | nm x => P x
  | bk x => P x
  | th a b => a.all P ∧ b.all P
  | or a b => a.all P ∧ b.all P
  | ag a => a.all P
  | mo a => a.all P
  | mb a => a.all P
  | _ => True
theorem size_pos : ∀ w : Wd, 1 ≤ w.size
  | th a b => by have := size_pos a; show 1 ≤ a.size + b.size; omega
  | or a b => by have := size_pos a; show 1 ≤ a.size + b.size; omega
  | ag a => size_pos a
  | mo a => size_pos a
  | mb a => size_pos a
  | nm _ => Nat.le_refl _
  | bk _ => Nat.le_refl _
  | any => Nat.le_refl _
  | ab => Nat.le_refl _
  | em => Nat.le_refl _
  | no => Nat.le_refl _
theorem dep_pos : ∀ w : Wd, 1 ≤ w.dep := by
  intro w
  cases w <;> unfold dep <;> omega
theorem pur : ∀ w : Wd, purD w.toD = true
  | th a b => by show (true && (purD a.toD && (purD b.toD && true))) = true; rw [pur a, pur b]; rfl
  | or a b => by show (true && (purD a.toD && (purD b.toD && true))) = true; rw [pur a, pur b]; rfl
  | ag a => by show (true && (purD a.toD && true)) = true; rw [pur a]; rfl
  | mo a => by show (true && (purD a.toD && true)) = true; rw [pur a]; rfl
  | mb a => by show (true && (purD a.toD && true)) = true; rw [pur a]; rfl
  | nm _ => rfl
  | bk _ => rfl
  | any => rfl
  | ab => rfl
  | em => rfl
  | no => rfl
end Wd
end DL

set_option maxHeartbeats 1000000
namespace DL
open PySem PySem.Spec L2
open PyProof.Rows hiding St

/-! ### dicts with numbers and texts as keys -/
@[simp] def keyOf : D → Option Key
  | .int i => some (.inl i)
  | .str x => some (.inr x)
  | _ => none
def valD (kvs : List (Key × D)) (k : Key) : Option D := (kvs.find? fun kv => decide (kv.1 = k)).map (·.2)
def putD (kvs : List (Key × D)) (k : Key) (d : D) : List (Key × D) := if (valD kvs k).isSome = true then kvs.map (fun kv => if kv.1 = k then (kv.1, d) else kv) else kvs ++ [(k, d)]
def dropD (kvs : List (Key × D)) (k : Key) : List (Key × D) := kvs.filter fun kv => decide (kv.1 ≠ k)
/-- a dict of data stands for one of values -/
structure KD (K : PySem.W.Frag) (ι : Ct) (H : Hp) (fs : List (Key × D)) (vs : List (Key × V)) : Prop where
  ks : vs.map (·.1) = fs.map (·.1)
  rs : Rps K ι H (fs.map (·.2)) (vs.map (·.2))
section
variable {K : PySem.W.Frag} {ι ι' : Ct} {H H' : Hp} {ms : MS}
theorem KD.nil : KD K ι H [] [] := ⟨rfl, rfl⟩
theorem KD.uncons {p : Key × D} {fs : List (Key × D)} {vs : List (Key × V)} (h : KD K ι H (p :: fs) vs) : ∃ v r, vs = (p.1, v) :: r ∧ Rp K ι H p.2 v ∧ KD K ι H fs r := by
  obtain ⟨h1, h2⟩ := h
  cases vs with
  | nil => simp at h1
  | cons q r =>
    obtain ⟨w, us, e, a, b⟩ := h2
    simp only [List.map_cons, List.cons.injEq] at h1 e
    obtain ⟨e1, e2⟩ := e
    refine ⟨q.2, r, ?_, e1 ▸ a, h1.2, e2 ▸ b⟩
    rw [← h1.1]
theorem KD.cons {k : Key} {d : D} {v : V} {fs : List (Key × D)} {vs : List (Key × V)} (a : Rp K ι H d v) (h : KD K ι H fs vs) : KD K ι H ((k, d) :: fs) ((k, v) :: vs) :=
  ⟨by simp [h.ks], ⟨v, _, rfl, a, h.rs⟩⟩
theorem KD.mono (l : Le ι H ι' H') {fs : List (Key × D)} {vs : List (Key × V)} (h : KD K ι H fs vs) : KD K ι' H' fs vs := ⟨h.ks, Rps.mono l _ _ h.rs⟩
theorem KD.len {fs : List (Key × D)} {vs : List (Key × V)} (h : KD K ι H fs vs) : vs.length = fs.length := by
  have := congrArg List.length h.ks
  simpa using this
theorem KD.val {k : Key} : ∀ {fs : List (Key × D)} {vs : List (Key × V)}, KD K ι H fs vs → (∀ d, valD fs k = some d → ∃ v, valV vs k = some v ∧ Rp K ι H d v) ∧ (valD fs k = none → valV vs k = none)
  | [], vs, h => by
    have : vs = [] := by have := h.len; exact List.length_eq_zero_iff.mp this
    subst this
    exact ⟨fun d e => (by cases e), fun _ => rfl⟩
  | p :: fs, vs, h => by
    obtain ⟨v, r, rfl, a, h'⟩ := h.uncons
    by_cases e : p.1 = k
    · have e1 : valD (p :: fs) k = some p.2 := by simp [valD, List.find?_cons, e]
      have e2 : valV ((p.1, v) :: r) k = some v := valV_pos e
      exact ⟨fun d q => by rw [e1] at q; cases q; exact ⟨v, e2, a⟩, fun q => by rw [e1] at q; cases q⟩
    · have e1 : valD (p :: fs) k = valD fs k := by simp [valD, List.find?_cons, e]
      have e2 : valV ((p.1, v) :: r) k = valV r k := valV_neg e
      rw [e1, e2]
      exact KD.val h'
theorem KD.some_eq {k : Key} {fs : List (Key × D)} {vs : List (Key × V)} (h : KD K ι H fs vs) : (valV vs k).isSome = (valD fs k).isSome := by
  cases q : valD fs k with
  | none => rw [h.val.2 q]; rfl
  | some d => obtain ⟨v, e, _⟩ := h.val.1 d q; rw [e]; rfl
theorem KD.app {fs gs : List (Key × D)} {vs us : List (Key × V)} (h : KD K ι H fs vs) (h' : KD K ι H gs us) : KD K ι H (fs ++ gs) (vs ++ us) :=
  ⟨by rw [List.map_append, List.map_append, h.ks, h'.ks], by rw [List.map_append, List.map_append]; exact h.rs.append h'.rs⟩
theorem KD.repl {k : Key} {d : D} {v : V} (a : Rp K ι H d v) : ∀ {fs : List (Key × D)} {vs : List (Key × V)}, KD K ι H fs vs → KD K ι H (fs.map fun kv => if kv.1 = k then (kv.1, d) else kv) (vs.map fun kv => if kv.1 = k then (kv.1, v) else kv)
  | [], vs, h => by
    have : vs = [] := List.length_eq_zero_iff.mp h.len
    subst this
    exact .nil
  | p :: fs, vs, h => by
    obtain ⟨w, r, rfl, b, h'⟩ := h.uncons
    rw [List.map_cons, List.map_cons]
    by_cases e : p.1 = k
    · rw [if_pos e, if_pos e]
      exact KD.cons a (KD.repl a h')
    · rw [if_neg e, if_neg e]
      exact KD.cons (k := p.1) (d := p.2) b (KD.repl a h')
theorem KD.put {k : Key} {d : D} {v : V} {fs : List (Key × D)} {vs : List (Key × V)} (h : KD K ι H fs vs) (a : Rp K ι H d v) : KD K ι H (putD fs k d) (putK vs k v) := by
  unfold putD putK
  have e : (vs.any fun kv => decide (kv.1 = k)) = (valD fs k).isSome := by rw [valV_any, h.some_eq]
  rw [e]
  by_cases q : (valD fs k).isSome = true
  · rw [if_pos q, if_pos q]; exact h.repl a
  · rw [if_neg q, if_neg q]; exact h.app (KD.cons a .nil)
theorem KD.drop {k : Key} : ∀ {fs : List (Key × D)} {vs : List (Key × V)}, KD K ι H fs vs → KD K ι H (dropD fs k) (dropK vs k)
  | [], vs, h => by
    have : vs = [] := List.length_eq_zero_iff.mp h.len
    subst this
    exact .nil
  | p :: fs, vs, h => by
    obtain ⟨w, r, rfl, b, h'⟩ := h.uncons
    unfold dropD dropK
    rw [List.filter_cons, List.filter_cons]
    by_cases e : p.1 = k
    · rw [if_neg (by simp [e]), if_neg (by simp [e])]
      exact KD.drop h'
    · rw [if_pos (by simp [e]), if_pos (by simp [e])]
      exact KD.cons (k := p.1) (d := p.2) b (KD.drop h')
@[simp] def cellK (ms : MS) (o : D) : Option (Nat × List (Key × D)) := match o with
  | .ptr n => match ms[n]? with
    | some (.dK kvs) => some (n, kvs)
    | _ => none
  | _ => none
theorem Rel.cellK (R : Rel K ι H ms) {d : D} {n : Nat} {fs : List (Key × D)} {v : V} (e : cellK ms d = some (n, fs)) (h : Rp K ι H d v) : ∃ p vs, v = .ref p ∧ ι.a[n]? = some p ∧ H p = some (.dK vs) ∧ KD K ι H fs vs := by
  cases d with
  | ptr m =>
    unfold DL.cellK at e
    cases q : ms[m]? with
    | none => simp only [q] at e; cases e
    | some c =>
      cases c with
      | dK kvs =>
        simp only [q] at e
        cases e
        obtain ⟨p, rfl, hn⟩ := h
        obtain ⟨vs, h1, h2, h3⟩ := R.ok _ p _ hn q
        exact ⟨p, vs, rfl, hn, h1, h2, h3⟩
      | _ => simp only [q] at e; cases e
  | _ => cases e
theorem key_v {d : D} {k : Key} {v : V} (e : keyOf d = some k) (h : Rp K ι H d v) : v = kV k := by
  cases d with
  | int i => cases e; exact h
  | str x => cases e; exact h
  | _ => cases e
end

/-! ### d[k], k in d, d[k] = v, del d[k], d.get(k), d.get(k, x) -/
@[simp] def dgetE (fo fi : Env → MS → Res D) (env : Env) (ms : MS) : Res D := (fo env ms).bind fun o ms1 => (fi env ms1).bind fun i ms2 => match cellK ms2 o with
  | some (_, fs) => optR ((keyOf i).bind fun k => valD fs k) ms2
  | none => .bad
@[simp] def dinE (neg : Bool) (fi fo : Env → MS → Res D) (env : Env) (ms : MS) : Res D := (fi env ms).bind fun i ms1 => (fo env ms1).bind fun o ms2 => match cellK ms2 o with
  | some (_, fs) => match keyOf i with
    | some k => .ok (.bl (if neg then !(valD fs k).isSome else (valD fs k).isSome)) ms2
    | none => .bad
  | none => .bad
@[simp] def dputS (fv fo fi : Env → MS → Res D) : SF := fun env ms => (fv env ms).bind fun v ms1 => (fo env ms1).bind fun o ms2 => (fi env ms2).bind fun i ms3 => match cellK ms3 o with
  | some (n, fs) => match keyOf i with
    | some k => if fs.length < LIM then .ok (.nx, env) (ms3.set n (.dK (putD fs k v))) else .bad
    | none => .bad
  | none => .bad
@[simp] def ddelS (fo fi : Env → MS → Res D) : SF := fun env ms => (fo env ms).bind fun o ms1 => (fi env ms1).bind fun i ms2 => match cellK ms2 o with
  | some (n, fs) => match keyOf i with
    | some k => if (valD fs k).isSome = true then .ok (.nx, env) (ms2.set n (.dK (dropD fs k))) else .bad
    | none => .bad
  | none => .bad
@[simp] def get1E (fo fi : Env → MS → Res D) (env : Env) (ms : MS) : Res D := (fo env ms).bind fun o ms1 => match cellK ms1 o with
  | none => .bad
  | some _ => (fi env ms1).bind fun i ms2 => match cellK ms2 o with
    | some (_, fs) => match keyOf i with
      | some k => .ok ((valD fs k).getD .non) ms2
      | none => .bad
    | none => .bad
@[simp] def get2E (fo fi fx : Env → MS → Res D) (env : Env) (ms : MS) : Res D := (fo env ms).bind fun o ms1 => match cellK ms1 o with
  | none => .bad
  | some _ => (fi env ms1).bind fun i ms2 => (fx env ms2).bind fun x ms3 => match cellK ms3 o with
    | some (_, fs) => match keyOf i with
      | some k => .ok ((valD fs k).getD x) ms3
      | none => .bad
    | none => .bad
section
variable {X : Cx} {E : EW} {o i e value : Expr} {fo fi fv fx : Env → MS → Res D} {pos pos' tpos apos : Pos}
theorem KD.dget {K : PySem.W.Frag} {ι : Ct} {H : Hp} {fs : List (Key × D)} {vs : List (Key × V)} {p : Addr} {k : Key} (h : KD K ι H fs vs) (e : H p = some (.dK vs)) : DGet H p (kV k) (valV vs k) := DGet.k e
theorem d_dget (hr : X.A.units + 64 < cLine) (ho : DE X E o fo) (hi : DE X E i fi) (hs : NoSl i := by intro _ _; rfl) : DE X E (.Subscript o i pos) (dgetE fo fi) :=
  PE.conv (pe_dget (by omega) ho hi hs) fun σ H Q ⟨ι, env, ms, r, ev, q⟩ => by
    refine tR_seq r ev q fun ι1 H1 ms1 d x B1 o1 => ?_
    refine tR_seq B1.rel B1.env o1 fun ι2 H2 ms2 j y B2 o2 => ?_
    cases c : cellK ms2 d with
    | none => simp only [c] at o2; exact o2.elim
    | some z =>
      obtain ⟨n, fs⟩ := z
      obtain ⟨p, vs, rfl, _, h1, hk⟩ := B2.rel.cellK c (Rp.mono B2.le _ _ B1.r)
      cases q1 : keyOf j with
      | none => simp only [c, q1, Option.bind_none, optR] at o2; exact o2.elim
      | some k =>
        cases q2 : valD fs k with
        | none => simp only [c, q1, q2, Option.bind_some, optR] at o2; exact o2.elim
        | some dd =>
          simp only [c, q1, q2, Option.bind_some, optR] at o2
          obtain ⟨v, e1, e2⟩ := hk.val.1 dd q2
          have ek := key_v q1 B2.r
          subst ek
          exact ⟨p, v, rfl, e1 ▸ DGet.k h1, o2 _ ι2 H2 B2.rel .refl e2⟩
theorem dput_step {K : PySem.W.Frag} {E : EW} {ι : Ct} {H : Hp} {ms : MS} {p : Addr} {n : Nat} {fs : List (Key × D)} {vs : List (Key × V)} {k : Key} {d : D} {v : V} {env : Env} {σ : St} {D' : Ends} (R : Rel K ι H ms) (ev : EnvOk K ι H env σ) (hn : ι.a[n]? = some p) (h : KD K ι H fs vs) (a : Rp K ι H d v)
    (o : OutS K E ι H (.ok (.nx, env) (ms.set n (.dK (putD fs k d)))) D') : D'.nx σ (upd H p (.dK (putK vs k v))) := by
  have w := Le.write (o := .dK (putK vs k v)) R hn
  have h2 := (h.put (k := k) a).mono w
  exact o σ ι _ (R.write hn ⟨_, upd_same, h2.ks, h2.rs⟩) w (ev.mono w)
theorem s_dput (hr : X.A.units + 64 < cLine) (ho : DE X E o fo) (hi : DE X E i fi) (hv : DE X E value fv) (hs : swapsWith value (some (.Subscript o i pos')) pos.line X.env = pure false := by rfl) : DS X E (.Assign [.Subscript o i pos'] value pos) (dputS fv fo fi) :=
  PS.conv (ps_dput (by omega) ho hi hv hs) fun σ H D' ⟨ι, env, ms, r, ev, q⟩ => by
    refine tR_seqS r ev q fun ι1 H1 ms1 dv v B1 o1 => ?_
    refine tR_seqS B1.rel B1.env o1 fun ι2 H2 ms2 d x B2 o2 => ?_
    refine tR_seqS B2.rel B2.env o2 fun ι3 H3 ms3 j y B3 o3 => ?_
    cases c : cellK ms3 d with
    | none => simp only [c] at o3; exact o3.elim
    | some z =>
      obtain ⟨n, fs⟩ := z
      obtain ⟨p, vs, rfl, hn, h1, hk⟩ := B3.rel.cellK c (Rp.mono B3.le _ _ B2.r)
      cases q1 : keyOf j with
      | none => simp only [c, q1] at o3; exact o3.elim
      | some k =>
        simp only [c, q1] at o3
        by_cases hl : fs.length < LIM
        · rw [if_pos hl] at o3
          have ek := key_v q1 B3.r
          subst ek
          exact ⟨p, _, rfl, DPut.k h1 (by rw [hk.len, ← lim_eq]; exact hl), dput_step B3.rel B3.env hn hk (Rp.mono (B2.le.trans B3.le) _ _ B1.r) o3⟩
        · rw [if_neg hl] at o3; exact o3.elim
theorem s_ddel (ho : DE X E o fo) (hi : DE X E i fi) : DS X E (.Delete [.Subscript o i tpos] pos) (ddelS fo fi) :=
  PS.conv (ps_ddel ho hi) fun σ H D' ⟨ι, env, ms, r, ev, q⟩ => by
    refine tR_seqS r ev q fun ι1 H1 ms1 d x B1 o1 => ?_
    refine tR_seqS B1.rel B1.env o1 fun ι2 H2 ms2 j y B2 o2 => ?_
    cases c : cellK ms2 d with
    | none => simp only [c] at o2; exact o2.elim
    | some z =>
      obtain ⟨n, fs⟩ := z
      obtain ⟨p, vs, rfl, hn, h1, hk⟩ := B2.rel.cellK c (Rp.mono B2.le _ _ B1.r)
      cases q1 : keyOf j with
      | none => simp only [c, q1] at o2; exact o2.elim
      | some k =>
        simp only [c, q1] at o2
        by_cases hl : (valD fs k).isSome = true
        · rw [if_pos hl] at o2
          have w := Le.write (o := .dK (dropK vs k)) B2.rel hn
          have h2 := (hk.drop (k := k)).mono w
          exact ⟨p, vs, k, rfl, h1, key_v q1 B2.r, by rw [hk.some_eq]; exact hl, o2 σ ι2 _ (B2.rel.write hn ⟨_, upd_same, h2.ks, h2.rs⟩) w (B2.env.mono w)⟩
        · rw [if_neg hl] at o2; exact o2.elim
theorem get_step {K : PySem.W.Frag} {ι : Ct} {H : Hp} {fs : List (Key × D)} {vs : List (Key × V)} {k : Key} {d : D} {v : V} (h : KD K ι H fs vs) (a : Rp K ι H d v) : Rp K ι H ((valD fs k).getD d) ((valV vs k).getD v) := by
  cases q : valD fs k with
  | none => rw [h.val.2 q]; exact a
  | some d' => obtain ⟨v', e, b⟩ := h.val.1 d' q; rw [e]; exact b
theorem d_get1 (hr : X.A.units + 64 < cLine) (ho : DE X E o fo) (hi : DE X E e fi) (m : M1 X o "get" apos e pos := by exact ⟨rfl, rfl, rfl, rfl⟩) : DE X E (.Call (.Attribute o "get" apos) [e] [] pos) (get1E fo fi) :=
  PE.conv (pe_dget1 (by omega) ho hi m) fun σ H Q ⟨ι, env, ms, r, ev, q⟩ => by
    refine tR_seq r ev q fun ι1 H1 ms1 d x B1 o1 => ?_
    cases c : cellK ms1 d with
    | none => simp only [c] at o1; exact o1.elim
    | some z =>
      obtain ⟨n, fs⟩ := z
      simp only [c] at o1
      obtain ⟨p, vs, rfl, hn, h1, hk⟩ := B1.rel.cellK c B1.r
      refine ⟨p, rfl, .inl ⟨vs, .inl h1⟩, tR_seq B1.rel B1.env o1 fun ι2 H2 ms2 j y B2 o2 => ?_⟩
      cases c2 : cellK ms2 d with
      | none => simp only [c2] at o2; exact o2.elim
      | some z =>
        obtain ⟨n2, fs2⟩ := z
        obtain ⟨p2, vs2, e2, hn2, h2, hk2⟩ := B2.rel.cellK c2 (Rp.mono B2.le _ _ B1.r)
        cases e2
        cases q1 : keyOf j with
        | none => simp only [c2, q1] at o2; exact o2.elim
        | some k =>
          simp only [c2, q1] at o2
          have ek := key_v q1 B2.r
          subst ek
          exact ⟨_, DGet.k h2, o2 _ ι2 H2 B2.rel .refl (get_step hk2 rfl)⟩
theorem d_get2 {f : Expr} (hr : X.A.units + 64 < cLine) (ho : DE X E o fo) (hi : DE X E e fi) (hf : DE X E f fx) (m : M2 X o "get" apos e f pos := by exact ⟨rfl, rfl, rfl, rfl⟩) : DE X E (.Call (.Attribute o "get" apos) [e, f] [] pos) (get2E fo fi fx) :=
  PE.conv (pe_dget2 (by omega) ho hi hf m) fun σ H Q ⟨ι, env, ms, r, ev, q⟩ => by
    refine tR_seq r ev q fun ι1 H1 ms1 d x B1 o1 => ?_
    cases c : cellK ms1 d with
    | none => simp only [c] at o1; exact o1.elim
    | some z =>
      obtain ⟨n, fs⟩ := z
      simp only [c] at o1
      obtain ⟨p, vs, rfl, hn, h1, hk⟩ := B1.rel.cellK c B1.r
      refine ⟨p, rfl, .inl ⟨vs, .inl h1⟩, tR_seq B1.rel B1.env o1 fun ι2 H2 ms2 j y B2 o2 => tR_seq B2.rel B2.env o2 fun ι3 H3 ms3 u z B3 o3 => ?_⟩
      cases c2 : cellK ms3 d with
      | none => simp only [c2] at o3; exact o3.elim
      | some z =>
        obtain ⟨n2, fs2⟩ := z
        obtain ⟨p2, vs2, e2, hn2, h2, hk2⟩ := B3.rel.cellK c2 (Rp.mono (B2.le.trans B3.le) _ _ B1.r)
        cases e2
        cases q1 : keyOf j with
        | none => simp only [c2, q1] at o3; exact o3.elim
        | some k =>
          simp only [c2, q1] at o3
          have ek := key_v q1 (Rp.mono B3.le _ _ B2.r)
          subst ek
          exact ⟨_, DGet.k h2, o3 _ ι3 H3 B3.rel .refl (get_step hk2 B3.r)⟩
/-! {}, {k: v, ..}: a new dict, empty while the pairs are made -/
@[simp] def dnewE (_ : Env) (ms : MS) : Res D := .ok (.ptr ms.length) (ms ++ [.dK []])
theorem d_dnew : DE X E (.Dict [] [] pos) dnewE := PE.conv pe_dnewK fun σ H Q ⟨ι, env, ms, r, ev, q⟩ => fun p hp => by
  refine q _ (ι.push p) _ (r.newM hp ⟨[], upd_same, rfl, rfl⟩) (Le.newM r hp) ⟨p, rfl, ?_⟩
  show (ι.a ++ [p])[ms.length]? = some p
  rw [← r.len, List.getElem?_append_right (Nat.le_refl _)]
  simp
theorem din_read {K : PySem.W.Frag} {σ : St} {H : Hp} {Q : VK} (o : tD K E (dinE false fi fo) σ H Q) : tDIn (tD K E fi) (tD K E fo) σ H Q := by
  obtain ⟨ι, env, ms, r, ev, q⟩ := o
  refine tR_seq r ev q fun ι1 H1 ms1 j y B1 o1 => ?_
  refine tR_seq B1.rel B1.env o1 fun ι2 H2 ms2 d x B2 o2 => ?_
  cases c : cellK ms2 d with
  | none => simp only [c] at o2; exact o2.elim
  | some z =>
    obtain ⟨n, fs⟩ := z
    obtain ⟨p, vs, rfl, _, h1, hk⟩ := B2.rel.cellK c B2.r
    cases q1 : keyOf j with
    | none => simp only [c, q1] at o2; exact o2.elim
    | some k =>
      simp only [c, q1] at o2
      have ek := key_v q1 (Rp.mono B2.le _ _ B1.r)
      subst ek
      exact ⟨p, _, rfl, DGet.k h1, o2 _ ι2 H2 B2.rel .refl (by rw [hk.some_eq]; rfl)⟩
theorem dnin_read {K : PySem.W.Frag} {σ : St} {H : Hp} {Q : VK} (o : tD K E (dinE true fi fo) σ H Q) : tDNotIn (tD K E fi) (tD K E fo) σ H Q := by
  obtain ⟨ι, env, ms, r, ev, q⟩ := o
  refine tR_seq r ev q fun ι1 H1 ms1 j y B1 o1 => ?_
  refine tR_seq B1.rel B1.env o1 fun ι2 H2 ms2 d x B2 o2 => ?_
  cases c : cellK ms2 d with
  | none => simp only [c] at o2; exact o2.elim
  | some z =>
    obtain ⟨n, fs⟩ := z
    obtain ⟨p, vs, rfl, _, h1, hk⟩ := B2.rel.cellK c B2.r
    cases q1 : keyOf j with
    | none => simp only [c, q1] at o2; exact o2.elim
    | some k =>
      simp only [c, q1] at o2
      have ek := key_v q1 (Rp.mono B2.le _ _ B1.r)
      subst ek
      exact ⟨p, _, rfl, DGet.k h1, o2 _ ι2 H2 B2.rel .refl (by rw [hk.some_eq]; rfl)⟩
theorem d_din (hr : X.A.units + 64 < cLine) (hi : DE X E i fi) (ho : DE X E o fo) (hb : behindInMarks .In o = false := by rfl) : DE X E (.Compare i [.In] [o] pos) (dinE false fi fo) := PE.conv (pe_cmp (pc_din (by omega) hi ho) hb) fun _ _ _ o => din_read o
theorem t_din (hr : X.A.units + 64 < cLine) (hi : DE X E i fi) (ho : DE X E o fo) (hb : behindInMarks .In o = false := by rfl) : DT X E (.Compare i [.In] [o] pos) (valT (dinE false fi fo)) := PT.conv (pt_cmp (pc_din (by omega) hi ho) hb) fun _ _ _ o => din_read (val_test o)
theorem d_dnin (hr : X.A.units + 64 < cLine) (hi : DE X E i fi) (ho : DE X E o fo) (hb : behindInMarks .NotIn o = false := by rfl) : DE X E (.Compare i [.NotIn] [o] pos) (dinE true fi fo) := PE.conv (pe_cmp (pc_dnotin (by omega) hi ho) hb) fun _ _ _ o => dnin_read o
theorem t_dnin (hr : X.A.units + 64 < cLine) (hi : DE X E i fi) (ho : DE X E o fo) (hb : behindInMarks .NotIn o = false := by rfl) : DT X E (.Compare i [.NotIn] [o] pos) (valT (dinE true fi fo)) := PT.conv (pt_cmp (pc_dnotin (by omega) hi ho) hb) fun _ _ _ o => dnin_read (val_test o)
end
/-- the pairs of a display -/
def pairsE : List ((Env → MS → Res D) × (Env → MS → Res D)) → Env → MS → Res (List (D × D))
  | [], _, ms => .ok [] ms
  | (k, v) :: r, env, ms => (k env ms).bind fun a ms1 => (v env ms1).bind fun b ms2 => (pairsE r env ms2).bind fun ps ms3 => .ok ((a, b) :: ps) ms3
def keysOf : List (D × D) → Option (List (Key × D))
  | [] => some []
  | (a, b) :: r => match keyOf a, keysOf r with
    | some k, some ks => some ((k, b) :: ks)
    | _, _ => none
def mergeD (kvs more : List (Key × D)) : List (Key × D) := more.foldl (fun acc kv => putD acc kv.1 kv.2) kvs
@[simp] def dispE (trs : List ((Env → MS → Res D) × (Env → MS → Res D))) (env : Env) (ms : MS) : Res D := (pairsE trs env (ms ++ [.dK []])).bind fun ps ms2 => match ms2[ms.length]? with
  | some (.dK []) => match keysOf ps with
    | some kvs => if kvs.length ≤ 15 then .ok (.ptr ms.length) (ms2.set ms.length (.dK (mergeD [] kvs))) else .bad
    | none => .bad
  | _ => .bad
inductive DPs (X : Cx) (E : EW) : List (Option Expr) → List Expr → List ((Env → MS → Res D) × (Env → MS → Res D)) → Prop where
  | nil : DPs X E [] [] []
  | cons {k v : Expr} {ks : List (Option Expr)} {vs : List Expr} {fk fv : Env → MS → Res D} {trs : List ((Env → MS → Res D) × (Env → MS → Res D))} (hk : DE X E k fk) (hv : DE X E v fv) (hr : DPs X E ks vs trs) : DPs X E (some k :: ks) (v :: vs) ((fk, fv) :: trs)
def prRp (K : PySem.W.Frag) (ι : Ct) (H : Hp) : List (D × D) → List (V × V) → Prop
  | [], vs => vs = []
  | p :: ps, vs => ∃ q r, vs = q :: r ∧ Rp K ι H p.1 q.1 ∧ Rp K ι H p.2 q.2 ∧ prRp K ι H ps r
theorem prRp.mono {K : PySem.W.Frag} {ι ι' : Ct} {H H' : Hp} (l : Le ι H ι' H') : ∀ {ps : List (D × D)} {vs : List (V × V)}, prRp K ι H ps vs → prRp K ι' H' ps vs
  | [], _, h => h
  | p :: ps, _, ⟨q, r, e, a, b, c⟩ => ⟨q, r, e, Rp.mono l _ _ a, Rp.mono l _ _ b, prRp.mono l c⟩
theorem DPs.pps {X : Cx} {E : EW} {pos : Pos} {ks : List (Option Expr)} {vs : List Expr} {trs : List ((Env → MS → Res D) × (Env → MS → Res D))} (h : DPs X E ks vs trs) : PPs X pos ks vs (trs.map fun p => (tD X.K E p.1, tD X.K E p.2)) := by
  induction h with
  | nil => exact pps_nil
  | cons hk hv _ ih => exact pps_cons hk hv ih
theorem pairs_read {K : PySem.W.Frag} {E : EW} {σ : St} : ∀ {trs : List ((Env → MS → Res D) × (Env → MS → Res D))} {H : Hp} {Q : List (V × V) → Hp → Prop}, tR K E (prRp K) (pairsE trs) σ H Q → tPairs (trs.map fun p => (tD K E p.1, tD K E p.2)) σ H Q
  | [], H, Q, ⟨ι, env, ms, r, ev, o⟩ => o [] ι H r .refl rfl
  | (fk, fv) :: trs, H, Q, ⟨ι, env, ms, r, ev, o⟩ => by
    refine tR_seq r ev o fun ι1 H1 ms1 a x B1 o1 => ?_
    refine tR_seq B1.rel B1.env o1 fun ι2 H2 ms2 b y B2 o2 => ?_
    refine pairs_read (trs := trs) (tR_seq B2.rel B2.env o2 fun ι3 H3 ms3 ps qs B3 o3 => ?_)
    exact o3 _ ι3 H3 B3.rel .refl ⟨(x, y), qs, rfl, Rp.mono (B2.le.trans B3.le) _ _ B1.r, Rp.mono B3.le _ _ B2.r, B3.r⟩
theorem keys_read {K : PySem.W.Frag} {ι : Ct} {H : Hp} : ∀ {ps : List (D × D)} {kvs : List (Key × D)} {qs : List (V × V)}, keysOf ps = some kvs → prRp K ι H ps qs → ∃ ws : List (Key × V), qs = ws.map (fun kv => (kV kv.1, kv.2)) ∧ KD K ι H kvs ws
  | [], _, _, e, h => by cases e; cases h; exact ⟨[], rfl, .nil⟩
  | (a, b) :: ps, _, _, e, ⟨q, r, hq, h1, h2, h3⟩ => by
    subst hq
    unfold keysOf at e
    cases e1 : keyOf a with
    | none => simp only [e1] at e; cases e
    | some k =>
      cases e2 : keysOf ps with
      | none => simp only [e1, e2] at e; cases e
      | some ks =>
        simp only [e1, e2] at e
        cases e
        obtain ⟨ws, rfl, hk⟩ := keys_read e2 h3
        obtain ⟨qk, qv⟩ := q
        have := key_v e1 h1
        simp only at this
        subst this
        exact ⟨(k, qv) :: ws, rfl, KD.cons h2 hk⟩
theorem KD.merge {K : PySem.W.Frag} {ι : Ct} {H : Hp} : ∀ {more : List (Key × D)} {ms : List (Key × V)} {fs : List (Key × D)} {vs : List (Key × V)}, KD K ι H more ms → KD K ι H fs vs → KD K ι H (mergeD fs more) (mergeK vs ms)
  | [], ms, fs, vs, h, h' => by
    have : ms = [] := List.length_eq_zero_iff.mp h.len
    subst this
    exact h'
  | p :: more, ms, fs, vs, h, h' => by
    obtain ⟨v, r, rfl, a, h2⟩ := h.uncons
    show KD K ι H (mergeD (putD fs p.1 p.2) more) (mergeK (putK vs p.1 v) r)
    exact KD.merge h2 (h'.put a)
theorem d_disp {X : Cx} {E : EW} {pos : Pos} {ks : List (Option Expr)} {vs : List Expr} {trs : List ((Env → MS → Res D) × (Env → MS → Res D))} (h : DPs X E ks vs trs) (hall : ks.all (·.isSome) = true := by rfl) (hl : ks.length = vs.length := by rfl) (h0 : ks ≠ [] := by simp) (h15 : ks.length ≤ 15 := by decide) : DE X E (.Dict ks vs pos) (dispE trs) :=
  PE.conv (pe_disp h.pps hall hl h0 h15) fun σ H Q ⟨ι, env, ms, r, ev, q⟩ => fun p hp => by
    have R1 : Rel X.K (ι.push p) (upd H p (.dK [])) (ms ++ [.dK []]) := r.newM hp ⟨[], upd_same, rfl, rfl⟩
    have l1 : Le ι H (ι.push p) (upd H p (.dK [])) := Le.newM r hp
    have hpn : (ι.push p).a[ms.length]? = some p := by
      show (ι.a ++ [p])[ms.length]? = some p
      rw [← r.len, List.getElem?_append_right (Nat.le_refl _)]
      simp
    unfold dispE at q
    refine pairs_read (tR_seq R1 (ev.mono l1) (Out.from l1 q) fun ι2 H2 ms2 ps qs B2 o2 => ?_)
    have hp2 : ι2.a[ms.length]? = some p := B2.le.at hpn
    cases hc : ms2[ms.length]? with
    | none => simp only [hc] at o2; exact o2.elim
    | some c =>
      cases c with
      | dK kvs0 =>
        cases kvs0 with
        | nil =>
          simp only [hc] at o2
          cases hk : keysOf ps with
          | none => simp only [hk] at o2; exact o2.elim
          | some kvs =>
            simp only [hk] at o2
            by_cases hl : kvs.length ≤ 15
            · rw [if_pos hl] at o2
              obtain ⟨ws, rfl, hkd⟩ := keys_read hk B2.r
              obtain ⟨us, h1, h2, _⟩ := B2.rel.ok _ p _ hp2 hc
              have hu : us = [] := List.length_eq_zero_iff.mp (by have := congrArg List.length h2; simpa using this)
              subst hu
              have w := Le.write (o := .dK (mergeK [] ws)) B2.rel hp2
              have hm := (KD.merge hkd .nil).mono w
              exact ⟨h1, ws, rfl, by rw [hkd.len]; exact hl, o2 _ ι2 _ (B2.rel.write hp2 ⟨_, upd_same, hm.ks, hm.rs⟩) w ⟨p, rfl, hp2⟩⟩
            · rw [if_neg hl] at o2; exact o2.elim
        | cons _ _ => simp only [hc] at o2; exact o2.elim
      | lst _ => simp only [hc] at o2; exact o2.elim
      | obj _ _ => simp only [hc] at o2; exact o2.elim
      | dT _ => simp only [hc] at o2; exact o2.elim
      | exn _ _ => simp only [hc] at o2; exact o2.elim

/-! ### f-strings of texts and numbers -/
@[simp] def fmtE (f : Env → MS → Res D) (env : Env) (ms : MS) : Res D := (f env ms).bind fun d ms1 => match d with
  | .str y => if y.length ≤ LIM then .ok (.str y) ms1 else .bad
  | .int i => if i.natAbs.log2 < 1920 then .ok (.str (toString i)) ms1 else .bad
  | _ => .bad
def joinsE : List (Env → MS → Res D) → Str → Env → MS → Res D
  | [], acc, _, ms => .ok (.str acc) ms
  | f :: fs, acc, env, ms => (f env ms).bind fun d ms1 => match d with
    | .str y => if (acc ++ y).length ≤ LIM then joinsE fs (acc ++ y) env ms1 else .bad
    | _ => .bad
inductive DJ (X : Cx) (E : EW) : List Expr → List (Env → MS → Res D) → Prop where
  | nil : DJ X E [] []
  | cons {e : Expr} {f : Env → MS → Res D} {es : List Expr} {fs : List (Env → MS → Res D)} (h : DE X E e f) (r : DJ X E es fs) : DJ X E (e :: es) (f :: fs)
section
variable {X : Cx} {E : EW} {e : Expr} {f : Env → MS → Res D} {pos : Pos}
theorem DJ.pj {es : List Expr} {fs : List (Env → MS → Res D)} (h : DJ X E es fs) : PJ X es (fs.map fun f => tD X.K E f) := by
  induction h with
  | nil => exact .nil
  | cons h _ ih => exact .cons h ih
theorem d_fmt (he : DE X E e f) : DE X E (.FormattedValue e (-1) none pos) (fmtE f) :=
  PE.conv (pe_fmt he) fun σ H Q ⟨ι, env, ms, r, ev, o⟩ => tR_seq r ev o fun ι1 H1 ms1 d x B o1 => by
    cases d with
    | str y =>
      by_cases h : y.length ≤ LIM
      · simp only [if_pos h] at o1
        exact .inl ⟨y, B.r, by rw [← lim_eq]; exact h, o1 _ ι1 H1 B.rel .refl rfl⟩
      · simp only [if_neg h] at o1; exact o1.elim
    | int i =>
      by_cases h : i.natAbs.log2 < 1920
      · simp only [if_pos h] at o1
        exact .inr ⟨i, B.r, h, o1 _ ι1 H1 B.rel .refl rfl⟩
      · simp only [if_neg h] at o1; exact o1.elim
    | _ => exact o1.elim
theorem joins_read {K : PySem.W.Frag} {σ : St} : ∀ {fs : List (Env → MS → Res D)} {acc : Str} {H : Hp} {Q : VK}, tD K E (joinsE fs acc) σ H Q → tJs (fs.map fun f => tD K E f) acc σ H fun out H1 => Q (.str out) H1
  | [], acc, H, Q, ⟨ι, env, ms, r, ev, o⟩ => o _ ι H r .refl rfl
  | f :: fs, acc, H, Q, ⟨ι, env, ms, r, ev, o⟩ => tR_seq r ev o fun ι1 H1 ms1 d x B o1 => by
    cases d with
    | str y =>
      by_cases h : (acc ++ y).length ≤ LIM
      · simp only [if_pos h] at o1
        exact ⟨y, B.r, by rw [← lim_eq]; exact h, joins_read ⟨ι1, env, ms1, B.rel, B.env, o1⟩⟩
      · simp only [if_neg h] at o1; exact o1.elim
    | _ => exact o1.elim
theorem d_joined {v1 v2 : Expr} {rest : List Expr} {fs : List (Env → MS → Res D)} (h : DJ X E (v1 :: v2 :: rest) fs) : DE X E (.JoinedStr (v1 :: v2 :: rest) pos) (joinsE fs Str.empty) :=
  PE.conv (pe_joined h.pj) fun _ _ _ o => joins_read o
end

/-! ### x is None, module dicts of texts -/
def isNon : D → Bool
  | .non => true
  | _ => false
@[simp] def isND (neg : Bool) (a b : D) (ms : MS) : Res D := match b with
  | .non => .ok (.bl (if neg then !isNon a else isNon a)) ms
  | _ => .bad
section
variable {K : PySem.W.Frag} {E : EW}
theorem isNon_v {ι : Ct} {H : Hp} {d : D} {v : V} (h : Rp K ι H d v) : decide (v = .non) = isNon d := by
  cases d with
  | non => cases h; rfl
  | bl b => cases h; rfl
  | int i => cases h; rfl
  | str x => cases h; rfl
  | tup ds => obtain ⟨p, xs, rfl, _⟩ := h; rfl
  | lst ds => obtain ⟨p, xs, rfl, _⟩ := h; rfl
  | ro ds => obtain ⟨p, xs, rfl, _⟩ := h; rfl
  | ptr n => obtain ⟨p, rfl, _⟩ := h; rfl
theorem q_isN : P2 K E (fun x y H Q => y = .non ∧ Q (.bl (decide (x = .non))) H) (isND false) := by
  intro ι H ms a b x y Q R ra rb o
  cases b with
  | non => exact ⟨rb, by rw [isNon_v ra]; exact o _ ι H R .refl rfl⟩
  | _ => exact o.elim
theorem q_notN : P2 K E (fun x y H Q => y = .non ∧ Q (.bl (!decide (x = .non))) H) (isND true) := by
  intro ι H ms a b x y Q R ra rb o
  cases b with
  | non => exact ⟨rb, by rw [isNon_v ra]; exact o _ ι H R .refl rfl⟩
  | _ => exact o.elim
end
/-- what is known of a module's dict: texts, or not there -/
def KTab (K : PySem.W.Frag) (d : Addr) (tbl : List (Str × Option Str)) : Prop := ∀ z r, tbl.lookup z = some r → match r with
  | none => PySem.W.nsIn K d z = some none
  | some y => ∃ t, PySem.W.nsIn K d z = some (some (.str y t))
@[simp] def kinE (tbl : List (Str × Option Str)) (f : Env → MS → Res D) (env : Env) (ms : MS) : Res D := (f env ms).bind fun d ms1 => match d with
  | .str z => match tbl.lookup z with
    | some r => .ok (.bl r.isSome) ms1
    | none => .bad
  | _ => .bad
@[simp] def kgetE (tbl : List (Str × Option Str)) (f : Env → MS → Res D) (env : Env) (ms : MS) : Res D := (f env ms).bind fun d ms1 => match d with
  | .str z => match tbl.lookup z with
    | some (some y) => .ok (.str y) ms1
    | _ => .bad
  | _ => .bad
structure KM (K : PySem.W.Frag) (w : World) (mg : Str → Option Value) (x : Str) (tbl : List (Str × Option Str)) where
  d : Addr
  es : Array DictEntry
  n : Nat
  k : KDict K w d es n
  t : KTab K d tbl
  g : mg x = some (.ref d)
section
variable {X : Cx} {E : EW} {i : Expr} {f : Env → MS → Res D} {x : Str} {tbl : List (Str × Option Str)} {p pos : Pos}
theorem kin_read {K : PySem.W.Frag} {w : World} {mg : Str → Option Value} (C : KM K w mg x tbl) {σ : St} {H : Hp} {Q : VK} (h : tD K E (kinE tbl f) σ H Q) : tD K E f σ H fun y H1 => ∃ (z : Str) (r : Option Value), y = .str z ∧ V.ref C.d = .ref C.d ∧ PySem.W.nsIn K C.d z = some r ∧ Q (.bl r.isSome) H1 := by
  obtain ⟨ι, env, ms, r, ev, o⟩ := h
  refine tR_seq r ev o fun ι1 H1 ms1 d x B1 o1 => ?_
  cases d with
  | str z =>
    cases q : tbl.lookup z with
    | none => simp only [q] at o1; exact o1.elim
    | some r =>
      simp only [q] at o1
      have ht := C.t z r q
      cases r with
      | none => exact ⟨z, _, B1.r, rfl, ht, o1 _ ι1 H1 B1.rel .refl rfl⟩
      | some y => obtain ⟨t, ht⟩ := ht; exact ⟨z, _, B1.r, rfl, ht, o1 _ ι1 H1 B1.rel .refl rfl⟩
  | _ => exact o1.elim
theorem d_kin (C : KM X.K X.w X.mg x tbl) (hi : DE X E i f) (hg : Gl X x := by rfl) (hb : behindInMarks .In (.Name x p) = false := by rfl) (hdb : (x == ("__debug__" : Str)) = false := by decide) : DE X E (.Compare i [.In] [.Name x p] pos) (kinE tbl f) :=
  PE.conv (pe_cmpR (op_in_kd C.k) hi (pe_glob hg C.g (v := .ref C.d) rfl hdb) hb) fun σ H Q h => kin_read C h
theorem t_kin (C : KM X.K X.w X.mg x tbl) (hi : DE X E i f) (hg : Gl X x := by rfl) (hb : behindInMarks .In (.Name x p) = false := by rfl) (hdb : (x == ("__debug__" : Str)) = false := by decide) : DT X E (.Compare i [.In] [.Name x p] pos) (valT (kinE tbl f)) :=
  PT.conv (pt_cmpR (op_in_kd C.k) hi (pe_glob hg C.g (v := .ref C.d) rfl hdb) hb) fun σ H Q h => (kin_read C (val_test h))
theorem pe_kget {ti : TE} (C : KM X.K X.w X.mg x tbl) (hi : PE X i ti) (hg : Gl X x) (hs : NoSl i) (hdb : (x == ("__debug__" : Str)) = false) : PE X (.Subscript (.Name x p) i pos) (fun σ H Q => ti σ H fun y H1 => ∃ (z : Str) (u0 : Value) (v0 : V), y = .str z ∧ PySem.W.nsIn X.K C.d z = some (some u0) ∧ RelV v0 u0 ∧ Q v0 H1) := by
  refine ⟨fun pins s σ H Q I h => subD_of PySem.F.slot_dict_getitem.lookup hs (thn ((pe_glob (pos := p) hg C.g (v := .ref C.d) rfl hdb).run pins s σ H (fun y H' => y = .ref C.d ∧ H' = H) I ⟨rfl, rfl⟩) fun u s1 ⟨y, H1, I1, ry, ey, eH⟩ => ?_)⟩
  subst eH
  subst ey
  refine thn (hi.run pins s1 σ H1 _ I1 h) fun iv s2 ⟨y, H2, I2, ry2, z, u0, v0, ez, e, rv, q⟩ => ?_
  obtain rfl : u = Value.ref C.d := ry
  exact ⟨kd_type C.k I2, op_item_kd C.k pins s2 σ H2 (.ref C.d) y _ iv Q I2 rfl ry2 ⟨z, u0, v0, rfl, ez, e, rv, q⟩⟩
theorem d_kget (C : KM X.K X.w X.mg x tbl) (hi : DE X E i f) (hg : Gl X x := by rfl) (hs : NoSl i := by intro _ _; rfl) (hdb : (x == ("__debug__" : Str)) = false := by decide) : DE X E (.Subscript (.Name x p) i pos) (kgetE tbl f) :=
  PE.conv (pe_kget C hi hg hs hdb) fun σ H Q ⟨ι, env, ms, r, ev, o⟩ => tR_seq r ev o fun ι1 H1 ms1 d y B1 o1 => by
    cases d with
    | str z =>
      cases q : tbl.lookup z with
      | none => simp only [q] at o1; exact o1.elim
      | some r =>
        cases r with
        | none => simp only [q] at o1; exact o1.elim
        | some t =>
          simp only [q] at o1
          obtain ⟨tk, ht⟩ := C.t z (some t) q
          exact ⟨z, _, .str t, B1.r, ht, ⟨tk, rfl⟩, o1 _ ι1 H1 B1.rel .refl rfl⟩
    | _ => exact o1.elim
end
def KTabL (K : PySem.W.Frag) (d : Addr) : List (Str × Option Str) → Prop
  | [] => True
  | (z, none) :: r => PySem.W.nsIn K d z = some none ∧ KTabL K d r
  | (z, some y) :: r => (∃ t, PySem.W.nsIn K d z = some (some (.str y t))) ∧ KTabL K d r
theorem KTabL.tab {K : PySem.W.Frag} {d : Addr} : ∀ {tbl : List (Str × Option Str)}, KTabL K d tbl → KTab K d tbl
  | [], _ => fun z r h => by cases h
  | (z0, none) :: l, h => fun z r e => by
    unfold List.lookup at e
    cases q : z == z0 with
    | true =>
      rw [q] at e
      cases e
      have : z = z0 := eq_of_beq q
      subst this
      exact h.1
    | false =>
      rw [q] at e
      exact KTabL.tab h.2 z r e
  | (z0, some y) :: l, h => fun z r e => by
    unfold List.lookup at e
    cases q : z == z0 with
    | true =>
      rw [q] at e
      cases e
      have : z = z0 := eq_of_beq q
      subst this
      exact h.1
    | false =>
      rw [q] at e
      exact KTabL.tab h.2 z r e
end DL

set_option maxHeartbeats 1000000
namespace DL
open PySem PySem.Spec L2
open PyProof.Rows hiding St

/-! ### objects -/
structure KC (K : PySem.W.Frag) (mg : Str → Option Value) (nm : Str) (fl : List Str) where
  C : Addr
  ns : PySem.W.nsIn K mainGlobals nm = some (some (.ref C))
  g : mg nm = some (.ref C)
  cl : Cls K C
  no : ∀ f, f ∈ fl → NoAttr K C f
def putFD (f : Str) (d : D) : List (Str × D) → List (Str × D)
  | [] => [(f, d)]
  | (g, x) :: r => if g = f then (g, d) :: r else (g, x) :: putFD f d r
structure KF (K : PySem.W.Frag) (ι : Ct) (H : Hp) (fs : List (Str × D)) (vs : List (Str × V)) : Prop where
  ks : vs.map (·.1) = fs.map (·.1)
  rs : Rps K ι H (fs.map (·.2)) (vs.map (·.2))
section
variable {K : PySem.W.Frag} {ι ι' : Ct} {H H' : Hp} {ms : MS}
theorem KF.uncons {p : Str × D} {fs : List (Str × D)} {vs : List (Str × V)} (h : KF K ι H (p :: fs) vs) : ∃ v r, vs = (p.1, v) :: r ∧ Rp K ι H p.2 v ∧ KF K ι H fs r := by
  obtain ⟨h1, h2⟩ := h
  cases vs with
  | nil => simp at h1
  | cons q r =>
    obtain ⟨w, us, e, a, b⟩ := h2
    simp only [List.map_cons, List.cons.injEq] at h1 e
    obtain ⟨e1, e2⟩ := e
    refine ⟨q.2, r, ?_, e1 ▸ a, h1.2, e2 ▸ b⟩
    rw [← h1.1]
theorem KF.cons {k : Str} {d : D} {v : V} {fs : List (Str × D)} {vs : List (Str × V)} (a : Rp K ι H d v) (h : KF K ι H fs vs) : KF K ι H ((k, d) :: fs) ((k, v) :: vs) :=
  ⟨by simp [h.ks], ⟨v, _, rfl, a, h.rs⟩⟩
theorem KF.nil_of {vs : List (Str × V)} (h : KF K ι H [] vs) : vs = [] := by
  have := congrArg List.length h.ks
  simpa using this
theorem KF.mono (l : Le ι H ι' H') {fs : List (Str × D)} {vs : List (Str × V)} (h : KF K ι H fs vs) : KF K ι' H' fs vs := ⟨h.ks, Rps.mono l _ _ h.rs⟩
theorem KF.len {fs : List (Str × D)} {vs : List (Str × V)} (h : KF K ι H fs vs) : vs.length = fs.length := by
  have := congrArg List.length h.ks
  simpa using this
theorem KF.get {f : Str} : ∀ {fs : List (Str × D)} {vs : List (Str × V)}, KF K ι H fs vs → (∀ d, fs.lookup f = some d → ∃ v, vs.lookup f = some v ∧ Rp K ι H d v) ∧ (fs.lookup f = none → vs.lookup f = none)
  | [], vs, h => by
    have := h.nil_of
    subst this
    exact ⟨fun d e => (by cases e), fun _ => rfl⟩
  | p :: fs, vs, h => by
    obtain ⟨v, r, rfl, a, h'⟩ := h.uncons
    obtain ⟨g, x⟩ := p
    cases e : (f == g) with
    | true =>
      have e1 : ((g, x) :: fs).lookup f = some x := by simp [List.lookup, e]
      have e2 : ((g, v) :: r).lookup f = some v := by simp [List.lookup, e]
      exact ⟨fun d q => by rw [e1] at q; cases q; exact ⟨v, e2, a⟩, fun q => by rw [e1] at q; cases q⟩
    | false =>
      have e1 : ((g, x) :: fs).lookup f = fs.lookup f := by simp [List.lookup, e]
      have e2 : ((g, v) :: r).lookup f = r.lookup f := by simp [List.lookup, e]
      rw [e1]
      show (∀ d, fs.lookup f = some d → ∃ v', ((g, v) :: r).lookup f = some v' ∧ Rp K ι H d v') ∧ (fs.lookup f = none → ((g, v) :: r).lookup f = none)
      rw [e2]
      exact KF.get h'
theorem KF.put {f : Str} {d : D} {v : V} (a : Rp K ι H d v) : ∀ {fs : List (Str × D)} {vs : List (Str × V)}, KF K ι H fs vs → KF K ι H (putFD f d fs) (putF f v vs)
  | [], vs, h => by
    have := h.nil_of
    subst this
    exact KF.cons a ⟨rfl, rfl⟩
  | p :: fs, vs, h => by
    obtain ⟨w, r, rfl, b, h'⟩ := h.uncons
    obtain ⟨g, x⟩ := p
    show KF K ι H (if g = f then (g, d) :: fs else (g, x) :: putFD f d fs) (if g = f then (g, v) :: r else (g, w) :: putF f v r)
    by_cases e : g = f
    · rw [if_pos e, if_pos e]
      exact KF.cons a h'
    · rw [if_neg e, if_neg e]
      exact KF.cons b (KF.put a h')
@[simp] def objOf (nm : Str) (ms : MS) (o : D) : Option (Nat × List (Str × D)) := match o with
  | .ptr n => match ms[n]? with
    | some (.obj nm' fs) => if nm' = nm then some (n, fs) else none
    | _ => none
  | _ => none
theorem Rel.objOf {mg : Str → Option Value} {nm : Str} {fl : List Str} (T : KC K mg nm fl) (R : Rel K ι H ms) {d : D} {n : Nat} {fs : List (Str × D)} {v : V} (e : objOf nm ms d = some (n, fs)) (h : Rp K ι H d v) :
    d = .ptr n ∧ ∃ p dx vs, v = .ref p ∧ ι.a[n]? = some p ∧ H p = some (.ins T.C dx vs) ∧ KF K ι H fs vs := by
  cases d with
  | ptr m =>
    unfold DL.objOf at e
    cases q : ms[m]? with
    | none => simp only [q] at e; cases e
    | some c =>
      cases c with
      | obj nm' fs' =>
        simp only [q] at e
        by_cases hn : nm' = nm
        · rw [if_pos hn] at e
          cases e
          subst hn
          obtain ⟨p, rfl, hp⟩ := h
          obtain ⟨C, dx, vs, h0, h1, h2, h3⟩ := R.ok _ p _ hp q
          rw [T.ns] at h0
          cases h0
          exact ⟨rfl, p, dx, vs, rfl, hp, h1, h2, h3⟩
        · rw [if_neg hn] at e; cases e
      | _ => simp only [q] at e; cases e
  | _ => cases e
end
@[simp] def fldE (nm f : Str) (fo : Env → MS → Res D) (env : Env) (ms : MS) : Res D := (fo env ms).bind fun o ms1 => match objOf nm ms1 o with
  | some (_, fs) => optR (fs.lookup f) ms1
  | none => .bad
@[simp] def fldS (nm f : Str) (fo fv : Env → MS → Res D) : SF := fun env ms => (fv env ms).bind fun d ms1 => (fo env ms1).bind fun o ms2 => match objOf nm ms2 o with
  | some (n, fs) => if fs.length < 1000 then .ok (.nx, env) (ms2.set n (.obj nm (putFD f d fs))) else .bad
  | none => .bad
@[simp] def methE (nm m : Str) (fo : Env → MS → Res D) (fs : Env → MS → Res (List D)) (p : List D → MS → Res D) (env : Env) (ms : MS) : Res D := (fo env ms).bind fun o ms1 => match objOf nm ms1 o with
  | some (_, fl) => if (fl.lookup m).isSome = true then .bad else (fs env ms1).bind fun ds ms2 => p (o :: ds) ms2
  | none => .bad
@[simp] def makeE (nm : Str) (n : Nat) (fs : Env → MS → Res (List D)) (sem : List D → MS → Res D) (env : Env) (ms : MS) : Res D := (fs env ms).bind fun ds ms1 => (callP n sem (.ptr ms1.length :: ds) (ms1 ++ [.obj nm []])).bind fun r ms2 => match r with
  | .non => .ok (.ptr ms1.length) ms2
  | _ => .bad
@[simp] def badS : SF := fun _ _ => .bad
structure CalM (P : Program) (w : World) (K : PySem.W.Frag) (mg : Str → Option Value) (base : Heap) (k : Nat) (nm m : Str) (ps : List Str) (sem : List D → MS → Res D) where
  fl : List Str
  c : KC K mg nm fl
  f : Addr
  fd : FuncData
  ok : FnOk P w K mg base CX0 k f fd ps (dSp K ps.length sem)
  me : Meth K c.C m f
  b : Binds K fd ps []
structure CalI (P : Program) (w : World) (K : PySem.W.Frag) (mg : Str → Option Value) (base : Heap) (k : Nat) (nm : Str) (ps : List Str) (sem : List D → MS → Res D) where
  fl : List Str
  c : KC K mg nm fl
  f : Addr
  fd : FuncData
  ok : FnOk P w K mg base CX0 k f fd ps (dSp K ps.length sem)
  mkc : Mk K c.C f
  b : Binds K fd ps []
section
variable {X : Cx} {E : EW} {o e value : Expr} {es : List Expr} {nm f m : Str} {fl ps : List Str} {pos pos' apos p : Pos} {fo fv : Env → MS → Res D} {fs : Env → MS → Res (List D)} {k n : Nat} {sem : List D → MS → Res D}
theorem d_fld (T : KC X.K X.mg nm fl) (hf : f ∈ fl) (ho : DE X E o fo) (hb : attributeBase o f X.env (eval o X.env) = eval o X.env := by rfl) : DE X E (.Attribute o f pos) (fldE nm f fo) :=
  PE.conv (pe_fld ho hb) fun σ H Q ⟨ι, env, ms, r, ev, q⟩ => tR_seq r ev q fun ι1 H1 ms1 d x B1 o1 => by
    cases c : objOf nm ms1 d with
    | none => simp only [c] at o1; exact o1.elim
    | some z =>
      obtain ⟨j, fs⟩ := z
      simp only [c] at o1
      obtain ⟨_, a, dx, vs, rfl, _, h1, hk⟩ := Rel.objOf T B1.rel c B1.r
      cases l : fs.lookup f with
      | none => rw [l] at o1; exact o1.elim
      | some y =>
        rw [l] at o1
        obtain ⟨v, hv, rv⟩ := hk.get.1 y l
        exact ⟨a, T.C, dx, vs, v, rfl, h1, T.cl, T.no f hf, hv, o1 v ι1 H1 B1.rel .refl rv⟩
theorem s_fld (T : KC X.K X.mg nm fl) (hf : f ∈ fl) (ho : DE X E o fo) (hv : DE X E value fv) (hs : swapsWith value (some (.Attribute o f pos')) pos.line X.env = pure false := by rfl) : DS X E (.Assign [.Attribute o f pos'] value pos) (fldS nm f fo fv) :=
  PS.conv (ps_fld ho hv hs) fun σ H D' ⟨ι, env, ms, r, ev, q⟩ => by
    refine tR_seqS r ev q fun ι1 H1 ms1 dv v B1 o1 => ?_
    refine tR_seqS B1.rel B1.env o1 fun ι2 H2 ms2 d x B2 o2 => ?_
    cases c : objOf nm ms2 d with
    | none => simp only [c] at o2; exact o2.elim
    | some z =>
      obtain ⟨j, fs⟩ := z
      simp only [c] at o2
      obtain ⟨_, a, dx, vs, rfl, hn, h1, hk⟩ := Rel.objOf T B2.rel c B2.r
      by_cases hl : fs.length < 1000
      · rw [if_pos hl] at o2
        have w := Le.write (o := .ins T.C dx (putF f v vs)) B2.rel hn
        have rv := Rp.mono B2.le _ _ B1.r
        have h2 := (hk.put (f := f) rv).mono w
        exact ⟨a, T.C, dx, vs, rfl, h1, T.cl, T.no f hf, by rw [hk.len]; exact hl, o2 σ ι2 _ (B2.rel.write hn ⟨T.C, dx, _, T.ns, upd_same, h2.ks, h2.rs⟩) w (B2.env.mono w)⟩
      · rw [if_neg hl] at o2; exact o2.elim
theorem meth_read {K : PySem.W.Frag} {mg : Str → Option Value} (T : KC K mg nm fl) {σ : St} {H : Hp} {Q : VK} {EX : XK} (h : tD K E (methE nm m fo fs (callP n sem)) σ H Q) : tMeth T.C m (dSp K n sem) [] EX (tD K E fo) (tAr K E fs) σ H Q := by
  obtain ⟨ι, env, ms, r, ev, q⟩ := h
  refine tR_seq r ev q fun ι1 H1 ms1 d x B1 o1 => ?_
  cases c : objOf nm ms1 d with
  | none => simp only [c] at o1; exact o1.elim
  | some z =>
    obtain ⟨j, fls⟩ := z
    simp only [c] at o1
    obtain ⟨_, a, dx, vs, rfl, hn, h1, hk⟩ := Rel.objOf T B1.rel c B1.r
    cases l : fls.lookup m with
    | some y => rw [l] at o1; exact o1.elim
    | none =>
      rw [l] at o1
      refine ⟨a, dx, vs, rfl, h1, hk.get.2 l, ?_⟩
      have o2 : Out K E (Rp K) ι1 H1 ((fs env ms1).bind fun ds ms2 => callP n sem (d :: ds) ms2) Q := o1
      refine tR_seq B1.rel B1.env o2 fun ι2 H2 ms2 ds us B2 o3 => ?_
      unfold callP at o3
      by_cases h : (d :: ds).length = n
      · rw [if_pos h] at o3
        rw [List.append_nil]
        exact ⟨ι2, ms2, d :: ds, B2.rel, ⟨_, us, rfl, Rp.mono B2.le _ _ B1.r, B2.r⟩, h, out_noExc o3⟩
      · rw [if_neg h] at o3; exact o3.elim
theorem c_meth (C : CalM X.prog X.w X.K X.mg X.base k nm m ps sem) (hr : Room k X.A) (ho : DE X E o fo) (ha : DA X E (e :: es) fs)
    (hst : starEach (e :: es) X.env = (false, eval e X.env) :: starEach es X.env := by rfl) (hpl : (backTo pos (starEach es X.env)).any (·.1) = false := by rfl) {pl : Sem Bool}
    (ht : eval (.Call (.Attribute o m apos) (e :: es) [] pos) X.env = (do
      let ov ← eval o X.env
      standAt apos.atName
      let (f, first) ← holding [ov] (getMethod ov m pl)
      callWith pos f first (backTo pos (starEach (e :: es) X.env)) (backToKw pos (keywordEach [] X.env))) := by rfl) (hn : ps.length = n := by rfl) : DE X E (.Call (.Attribute o m apos) (e :: es) [] pos) (methE nm m fo fs (callP n sem)) := by
  subst hn
  exact PE.conv (pe_meth ho C.c.cl C.me C.ok hr C.b .nil pass0 ha hst hpl ht) fun σ H Q h => meth_read C.c h
theorem c_meth0 (C : CalM X.prog X.w X.K X.mg X.base k nm m ps sem) (hr : Room k X.A) (ho : DE X E o fo) {pl : Sem Bool}
    (ht : eval (.Call (.Attribute o m apos) [] [] pos) X.env = (do
      let ov ← eval o X.env
      standAt apos.atName
      let (f, first) ← holding [ov] (getMethod ov m pl)
      callWith pos f first (backTo pos (starEach [] X.env)) (backToKw pos (keywordEach [] X.env))) := by rfl) (hn : ps.length = n := by rfl) : DE X E (.Call (.Attribute o m apos) [] [] pos) (methE nm m fo nilA (callP n sem)) := by
  subst hn
  exact PE.conv (pe_meth0 ho C.c.cl C.me C.ok hr C.b .nil pass0 ht) fun σ H Q h => by
    have := meth_read (E := E) (fs := nilA) C.c (EX := E0) h
    obtain ⟨ι, env, ms, r, ev, q⟩ := this
    refine ⟨ι, env, ms, r, ev, ?_⟩
    cases z : fo env ms with
    | bad => rw [z] at q; exact q
    | exc x ms1 => rw [z] at q; exact q
    | ok d ms1 =>
      rw [z] at q
      intro b ι1 H1 R1 l1 rb
      obtain ⟨a, dx, vs, e1, e2, e3, t⟩ := q b ι1 H1 R1 l1 rb
      refine ⟨a, dx, vs, e1, e2, e3, ?_⟩
      obtain ⟨ι2, env2, ms2, r2, ev2, q2⟩ := t
      exact q2 [] ι2 H1 r2 .refl rfl
theorem make_read {K : PySem.W.Frag} {mg : Str → Option Value} (T : KC K mg nm fl) {σ : St} {H : Hp} {Q : VK} {EX : XK} (h : tD K E (makeE nm n fs sem) σ H Q) : tMake T.C (dSp K n sem) [] EX (tAr K E fs) σ H Q := by
  obtain ⟨ι, env, ms, r, ev, q⟩ := h
  refine tR_seq r ev q fun ι1 H1 ms1 ds us B1 o1 => ?_
  intro x dx nx ndx nex
  have R2 : Rel K ι1 (upd H1 dx (.own x)) ms1 := B1.rel.new ndx
  have l2 : Le ι1 H1 ι1 (upd H1 dx (.own x)) := Le.new B1.rel ndx
  have nx2 : (upd H1 dx (.own x)) x = none := by rw [upd_ne (fun z => nex z.symm)]; exact nx
  have R3 : Rel K (ι1.push x) (upd (upd H1 dx (.own x)) x (.ins T.C dx [])) (ms1 ++ [.obj nm []]) := R2.newM nx2 ⟨T.C, dx, [], T.ns, upd_same, rfl, rfl⟩
  have l3 : Le ι1 H1 (ι1.push x) (upd (upd H1 dx (.own x)) x (.ins T.C dx [])) := l2.trans (Le.newM R2 nx2)
  have hx : (ι1.push x).a[ms1.length]? = some x := by
    show (ι1.a ++ [x])[ms1.length]? = some x
    rw [← B1.rel.len, List.getElem?_append_right (Nat.le_refl _)]
    simp
  rw [List.append_nil]
  unfold callP at o1
  by_cases hl : ((.ptr ms1.length :: ds) : List D).length = n
  · rw [if_pos hl] at o1
    refine ⟨ι1.push x, ms1 ++ [.obj nm []], .ptr ms1.length :: ds, R3, ⟨_, us, rfl, ⟨x, rfl, hx⟩, Rps.mono l3 _ _ B1.r⟩, hl, ?_⟩
    cases z : sem (.ptr ms1.length :: ds) (ms1 ++ [.obj nm []]) with
    | bad => rw [z] at o1; exact o1
    | exc y ms2 => rw [z] at o1; exact o1.elim
    | ok a ms2 =>
      rw [z] at o1
      intro b ι4 H4 R4 l4 rb
      cases a with
      | non =>
        have rb' : b = .non := rb
        exact ⟨rb', o1 (.ref x) ι4 H4 R4 (l3.trans l4) ⟨x, rfl, l4.at hx⟩⟩
      | _ => exact o1.elim
  · rw [if_neg hl] at o1; exact o1.elim
theorem c_make {x : Str} (C : CalI X.prog X.w X.K X.mg X.base k x ps sem) (hr : Room (k + 1) X.A) (ha : DA X E (e :: es) fs) (hg : Gl X x := by rfl) (hdb : (x == ("__debug__" : Str)) = false := by decide)
    (he : starEach (e :: es) X.env = (false, eval e X.env) :: starEach es X.env := by rfl) (hpl : (backTo pos (starEach es X.env)).any (·.1) = false := by rfl) (hn : ps.length = n := by rfl) : DE X E (.Call (.Name x p) (e :: es) [] pos) (makeE x n fs sem) := by
  subst hn
  exact PE.conv (pe_make C.mkc C.ok hr hg C.c.g C.b .nil pass0 ha hdb he hpl) fun σ H Q h => make_read C.c h
theorem c_make0 {x : Str} (C : CalI X.prog X.w X.K X.mg X.base k x ps sem) (hr : Room (k + 1) X.A) (hg : Gl X x := by rfl) (hdb : (x == ("__debug__" : Str)) = false := by decide) (hn : ps.length = n := by rfl) : DE X E (.Call (.Name x p) [] [] pos) (makeE x n nilA sem) := by
  subst hn
  exact PE.conv (pe_make0 C.mkc C.ok hr hg C.c.g C.b .nil pass0 hdb) fun σ H Q h => by
    have := make_read (E := E) (fs := nilA) C.c (EX := E0) h
    obtain ⟨ι, env, ms, r, ev, q⟩ := this
    exact q [] ι H r .refl rfl
/-- what is never come to -/
theorem s_bad {st : Stmt} : DS X E st badS := ⟨fun pins s σ H D I ⟨ι, env, ms, r, ev, q⟩ => q.elim⟩
end
end DL

set_option maxHeartbeats 4000000
namespace DL
open PySem PySem.Spec L2
open PyProof.Rows hiding St

/-! ### set(xs), xs a list of ints -/
section
variable {P : Program} {w : World} {A : Around} {E : Value → Shared → Prop} {s : Shared}
/-- the object that a set is made of -/
abbrev set0 (w : World) : Obj := { cls := .type "set", dict := none, data := .set #[] 0 (.fresh 0 0 (!w.params.followText "set-order")) }
abbrev itr0 (p : Addr) : Obj := { cls := .type "list_iterator", data := .fields #[.ref p, .int 0 0] }
set_option maxHeartbeats 3200000 in
theorem call_set_ints {p : Addr} {us : Array Value} (ks : List Int) {Q : Value → Shared → Prop} (nh : A.handled = none) (il : s.heap.IsList p us) (iu : IntsAre us.toList ks) (room : ks.length + 1 < scanBound)
    (fin : ∀ (g : Heap) (tk c : Nat), SetR w g s.heap.objs.size (fun j => decide (j ∈ ks)) c → (∀ b o, s.heap.get? b = some o → g.get? b = some o) → Q (.ref s.heap.objs.size) { s with heap := g, toks := tk }) :
    wpAny (model P w) A (call (.type "set") [.ref p]) Q E s := by
  have sz : us.size = ks.length := by have q := IntsAre.length iu; rwa [Array.length_toList] at q
  have hmr := F.called_set.mro; obtain ⟨c1, c2, hmr⟩ := hmr
  have k1 := F.called_set.made; have k2 := F.called_set.sub; have k3 := F.called_set.notType; have k4 := F.called_set.canCreate; have k5 := F.typeCall_set_1 (.ref p)
  apply wpAny_call; apply codeAny_of_tree
  change wpAny _ _ (callAny (.type "set") _) _ _ _
  apply wpAny_pure; refine ⟨Code.quiet_builtin _ (by decide +kernel), codeAny_builtin F.entry_type_call ?_⟩
  rw [Around.under_plain (weight_type_call_type "set" [.ref p] []) rfl]
  repeat (any_goals (first | assumption | wp_step))
  let h1 : Heap := s.heap.push (set0 w)
  have new1 : h1.get? s.heap.objs.size = some (set0 w) := Heap.get?_push_size _ rfl
  apply codeAny_mono (code_set_led1 (.ref p) (E := E) (Q₁ := fun ob t => ob = .ref s.heap.objs.size ∧ t = { s with heap := h1 }) ⟨rfl, rfl⟩)
  rintro (_ | fl) t ht
  · exact ht
  cases fl with
  | next => exact ht.elim
  | brk => exact ht.elim
  | cont => exact ht.elim
  | ret ob =>
    obtain ⟨rfl, rfl⟩ := ht
    have ty1 : Shared.TypeIs { s with heap := h1 } (.ref s.heap.objs.size) "set" := ⟨_, new1, rfl⟩
    have k6 := F.called_set.init.lookup; have k7 := F.called_set.init.bind (.ref s.heap.objs.size)
    repeat (any_goals (first | assumption | wp_step))
    let R2 : Value → Shared → Prop := fun r t => r = .none ∧ ∃ g tk c, t = { s with heap := g, toks := tk } ∧ SetR w g s.heap.objs.size (fun j => decide (j ∈ ks)) c ∧ (∀ b o, s.heap.get? b = some o → g.get? b = some o)
    apply codeAny_mono (codeAny_call_builtin (R := wants R2 E) F.called_set.init.plain F.entry_set_init (check_set_init_1 ty1 ?_))
    · rintro (_ | fl2) t2 ht2
      · exact ht2
      cases fl2 with
      | next => exact ht2.elim
      | brk => exact ht2.elim
      | cont => exact ht2.elim
      | ret r =>
        obtain ⟨rfl, g, tk, c, rfl, hS, hk⟩ := ht2
        repeat (any_goals (first | assumption | wp_step))
        exact fin _ _ _ hS hk
    · obtain ⟨o, ho, oc, m, od⟩ := il
      obtain ⟨q1, q2, q3, q4⟩ := o
      simp only at oc od; subst oc od
      have ho1 : h1.get? p = some { cls := .type "list", dict := q2, data := .seq us m, slots := q4 } := Heap.get?_push_of_some _ ho
      have il1 : h1.IsList p us := ⟨_, ho1, rfl, m, rfl⟩
      have b1 := F.sub_list_set; have b2 := F.sub_list_frozenset; have b3 : (Value.type "list" == Value.type "dict") = false := by decide
      unfold Builtin.«set.__init__» noKeywords Builtin.Frozenset.updateFrom
      generalize it : pyIter = PI
      wp_walk
      subst it
      apply wpAny_pyIter_list il1
      apply wpAny_bind; apply wpAny_runValue
      have lp : p < s.heap.objs.size := Heap.lt_size ho
      have z1 : h1.objs.size = s.heap.objs.size + 1 := Heap.size_push ..
      have np : p ≠ h1.objs.size := by rw [z1]; exact Nat.ne_of_lt (Nat.lt_succ_of_lt lp)
      have nS : s.heap.objs.size ∉ [h1.objs.size, p] := by simp only [List.mem_cons, List.not_mem_nil, or_false, not_or]; exact ⟨by rw [z1]; exact Nat.ne_of_lt (Nat.lt_succ_self _), Nat.ne_of_gt lp⟩
      have nh3 : A.in1.in1.in1.handled = none := by simp [nh]
      have vals : ∀ (i : Nat) (v : Value), us[i]? = some v → ∃ k t, ks[i]? = some k ∧ v = .int k t := fun i v hv => by
        have li : i < ks.length := by rw [← sz]; exact (Array.getElem?_eq_some_iff.mp hv).1
        obtain ⟨t, e⟩ := PyProof.Rows.IntsAre.int_at iu i v (by rwa [Array.getElem?_toList])
        exact ⟨ks[i], t, List.getElem?_eq_getElem li, by rw [e, List.getD_eq_getElem?_getD, List.getElem?_eq_getElem li]; rfl⟩
      apply set_update_ints ((Walks.list nh3 _ p np us).toS) s.heap.objs.size nS ks sz room vals (us.size - 0) 0 _ (by omega) (Nat.zero_le _) ⟨⟨_, Heap.get?_push_size _ rfl, rfl, rfl⟩, il1.push _⟩
      · exact ⟨0, Nat.le_refl 0, setR_new_at (Heap.get?_push_of_some (itr0 p) new1)⟩
      · rintro ⟨g, ge, dr, tk, os⟩ c hm _ hS
        have e1 : ge = s.gens := hm.gens
        have e2 : dr = s.drawn := hm.drawn
        have e3 : os = s.os := hm.os
        subst e1 e2 e3
        change wpAny _ _ _ _ _ _
        apply wpAny_pure
        change wpAny _ _ (ret Value.none) _ _ _
        refine wpAny_pure ⟨rfl, g, tk, c, rfl, hS, fun b o e => ?_⟩
        have lb : b < s.heap.objs.size := Heap.lt_size e
        exact hm.heap b o (by simp only [List.mem_cons, List.not_mem_nil, or_false, not_or]; exact ⟨Nat.ne_of_lt lb, by rw [z1]; exact Nat.ne_of_lt (Nat.lt_succ_of_lt lb)⟩) (Heap.get?_push_of_some (itr0 p) (Heap.get?_push_of_some (set0 w) e))
end
end DL

set_option maxHeartbeats 2000000
namespace DL
open PySem PySem.Spec L2
open PyProof.Rows hiding St

/-! ### rising lists of ints -/
def rise (l : List Int) : List Int := l.mergeSort fun a b => decide (a ≤ b)
theorem rise_perm (l : List Int) : (rise l).Perm l := List.mergeSort_perm ..
theorem rise_le (l : List Int) : (rise l).Pairwise (· ≤ ·) := by
  have := List.pairwise_mergeSort (le := fun a b : Int => decide (a ≤ b)) (fun a b c h1 h2 => by simp only [decide_eq_true_eq] at *; omega) (fun a b => by simp only [Bool.or_eq_true, decide_eq_true_eq]; omega) l
  exact this.imp fun h => by simpa using h
theorem rise_eq {l m : List Int} (p : m.Perm l) (h : m.Pairwise (· ≤ ·)) : m = rise l :=
  List.Perm.eq_of_pairwise (le := fun a b : Int => a ≤ b) (fun a b _ _ h1 h2 => by omega) h (rise_le l) (p.trans (rise_perm l).symm)
theorem mem_rise {l : List Int} {k : Int} : k ∈ rise l ↔ k ∈ l := (rise_perm l).mem_iff
theorem rise_len (l : List Int) : (rise l).length = l.length := (rise_perm l).length_eq
/-- each once -/
def once : List Int → List Int
  | [] => []
  | a :: l => if a ∈ l then once l else a :: once l
theorem mem_once {k : Int} : ∀ {l : List Int}, k ∈ once l ↔ k ∈ l
  | [] => Iff.rfl
  | a :: l => by
    unfold once
    split
    · rename_i h
      rw [mem_once, List.mem_cons]
      exact ⟨.inr, fun z => z.elim (fun e => e ▸ h) id⟩
    · rw [List.mem_cons, List.mem_cons, mem_once]
theorem once_nodup : ∀ l : List Int, (once l).Nodup
  | [] => List.nodup_nil
  | a :: l => by
    unfold once
    split
    · exact once_nodup l
    · rename_i h
      exact List.nodup_cons.mpr ⟨fun z => h (mem_once.mp z), once_nodup l⟩
/-- rising, each once -/
def rset (l : List Int) : List Int := rise (once l)
theorem mem_rset {l : List Int} {k : Int} : k ∈ rset l ↔ k ∈ l := by unfold rset; rw [mem_rise, mem_once]
theorem rset_nodup (l : List Int) : (rset l).Nodup := (rise_perm _).nodup_iff.mpr (once_nodup l)
theorem rset_lt (l : List Int) : (rset l).Pairwise (· < ·) := by
  have h1 := rise_le (once l)
  have h2 : (rset l).Pairwise (· ≠ ·) := rset_nodup l
  exact List.Pairwise.imp₂ (R := (· ≤ ·)) (S := (· ≠ ·)) (fun _ _ a b => by omega) h1 h2
theorem nodup_eq {l m : List Int} (hl : l.Nodup) (hm : m.Nodup) (h : ∀ k, k ∈ l ↔ k ∈ m) : l.length = m.length := ((List.perm_ext_iff_of_nodup hl hm).mpr h).length_eq
theorem rset_eq {l m : List Int} (h : m.Pairwise (· < ·)) (e : ∀ k, k ∈ m ↔ k ∈ l) : m = rset l := by
  have nd : m.Nodup := h.imp fun z => by omega
  refine rise_eq ((List.perm_ext_iff_of_nodup nd (once_nodup l)).mpr fun k => by rw [mem_once]; exact e k) (h.imp fun z => by omega)
/-- numbers below n, each once: at most n -/
theorem few_below : ∀ (n : Nat) (l : List Int), l.Nodup → (∀ k ∈ l, 0 ≤ k ∧ k < n) → l.length ≤ n
  | 0, l, _, h => by
    cases l with
    | nil => exact Nat.le_refl _
    | cons a l => have := h a (by simp); omega
  | n + 1, l, nd, h => by
    have h1 := few_below n (l.erase (n : Int)) (nd.erase _) fun k hk => by
      have h2 := h k (List.mem_of_mem_erase hk)
      have h3 : k ≠ (n : Int) := fun e => by
        subst e
        exact (List.Nodup.not_mem_erase nd) hk
      omega
    rw [List.length_erase] at h1
    split at h1 <;> omega
/-! ### set(xs) -/
def rSetI (K : PySem.W.Frag) (w : World) : List V → Hp → VK → Prop := fun vs H Q => ∃ (p : Addr) (ks : List Int), vs = [.ref p] ∧ SqL K H p (ks.map V.int) ∧ ks.length ≤ 1000 ∧
  ∀ (a : Addr) (n : Nat), n = (rset ks).length → H a = none → Q (.ref a) (upd H a (SetO w a (fun j => decide (j ∈ ks)) n))
theorem cr_setI {X : Cx} (hc : X.calm = true) : CallR X (.type "set") (rSetI X.K X.w) := by
  intro pins s σ H vs us Q I r h
  obtain ⟨p, ks, rfl, hs, hl, q⟩ := h
  obtain ⟨its, rv, hp, hz⟩ := I.list hs
  rw [Vals.ref1 r]
  have hi := rv.ints
  have hil : its.length = ks.length := IntsAre.length hi
  refine call_set_ints (us := its.toArray) ks (I.ok.hd hc) hp.isList (by simpa using hi) (by unfold scanBound; omega) fun g tk c hS hk => ?_
  have hn : H s.heap.objs.size = none := I.hok.fresh (Nat.le_refl _)
  have hcn : c = (rset ks).length := by
    obtain ⟨o, es, ep, t, _, _, _, _, nd, hm, _, _, hsz, _⟩ := hS
    have e : (es.toList.map L2.keyOf).length = c := by simpa using hsz
    rw [← e]
    exact nodup_eq nd (rset_nodup ks) fun k => by rw [← hm k, mem_rset]; simp
  exact ⟨.ref _, upd H s.heap.objs.size (SetO X.w s.heap.objs.size (fun j => decide (j ∈ ks)) c), I.laid (t' := tk) (fun b u e => hk b u e) (Nat.le_refl _) (setO_new hS), rfl, q _ c hcn hn⟩
/-! ### sorted(set(xs)) -/
@[simp] def ssetP (ds : List D) (ms : MS) : Res D := match ds with
  | [d] => match (rlOf ms d).bind intsOf with
    | some ns => if ns.length ≤ 1000 ∧ (rset ns).length < 64 then .ok (.lst ((rset ns).map D.int)) ms else .bad
    | none => .bad
  | _ => .bad
theorem ints_rp {K : PySem.W.Frag} {ι : Ct} {H : Hp} {ds : List D} {xs : List V} {ns : List Int} (e : intsOf ds = some ns) (r : Rps K ι H ds xs) : xs = ns.map V.int := by
  rw [intsOf_eq e] at r
  exact r.ints
theorem newL {K : PySem.W.Frag} {E : EW} {ι : Ct} {H : Hp} {ms : MS} {Q : VK} {ns : List Int} (R : Rel K ι H ms) (o : Out K E (Rp K) ι H (.ok (.lst (ns.map D.int)) ms) Q) {ι' : Ct} {H' : Hp} (R' : Rel K ι' H' ms) (l : Le ι H ι' H') {p : Addr} (hp : H' p = none) : Q (.ref p) (upd H' p (.lst (ns.map V.int))) := by
  refine o _ ι' _ (R'.new hp) (l.trans (Le.new R' hp)) ⟨p, ns.map V.int, rfl, upd_same, R'.fresh hp, Rps.ofInts⟩
section
variable {X : Cx} {E : EW} {e : Expr} {es : List Expr} {fs : Env → MS → Res (List D)} {p p2 q pos : Pos}
theorem d_sset (hc : X.calm = true) (hg : Gl X "sorted") (hm : X.mg "sorted" = none) (hg2 : Gl X "set") (hm2 : X.mg "set" = none) (ha : DA X E [e] fs) (hs : starEach [e] X.env = [(false, eval e X.env)] := by rfl) (hs2 : starEach [.Call (.Name "set" p2) [e] [] q] X.env = [(false, eval (.Call (.Name "set" p2) [e] [] q) X.env)] := by rfl) :
    DE X E (.Call (.Name "sorted" p) [.Call (.Name "set" p2) [e] [] q] [] pos) (appE fs ssetP) := by
  have z := pe_callB (pos := pos) (p := p) (cr_sortedSet hc) hg hm (by decide +kernel) (pa_cons (pe_callTy (pos := q) (p := p2) (cr_setI hc) hg2 hm2 (by decide +kernel) ha (he := hs)) pa_nil) (he := hs2)
  refine PE.conv z fun σ H Q ⟨ι, env, ms, r, ev, o⟩ => ?_
  have o' : tR X.K E (Rps X.K) fs σ H fun vs H1 => rSetI X.K X.w vs H1 fun x H2 => rSortedSet X.w [x] H2 Q := tR_seq r ev o fun ι1 H1 ms1 ds vs B o1 => by
    match ds, B.r, o1 with
    | [], _, o1 => exact o1.elim
    | _ :: _ :: _, _, o1 => exact o1.elim
    | [d], rd, o1 =>
      obtain ⟨v, rfl, rd1⟩ := Rps.one rd
      cases c1 : rlOf ms1 d with
      | none => simp only [ssetP, c1, Option.bind_none] at o1; exact o1.elim
      | some xs =>
        cases c2 : intsOf xs with
        | none => simp only [ssetP, c1, Option.bind_some, c2] at o1; exact o1.elim
        | some ns =>
          simp only [ssetP, c1, Option.bind_some, c2] at o1
          by_cases hl : ns.length ≤ 1000 ∧ (rset ns).length < 64
          · rw [if_pos hl] at o1
            obtain ⟨a, ys, rfl, rs, hq⟩ := B.rel.rl c1 rd1
            rw [ints_rp c2 rs] at hq
            refine ⟨a, ns, rfl, hq, hl.1, fun b n hn hb => ⟨b, _, n, rfl, upd_same, by omega, fun ms' l h1 h2 h3 hl' => ?_⟩⟩
            have hr : ms' = rset ns := rset_eq h1 fun k => by rw [h2 k]; simp
            subst hr
            exact newL B.rel o1 (B.rel.new hb) (Le.new B.rel hb) hl'
          · rw [if_neg hl] at o1; exact o1.elim
  exact o'
/-! ### sorted(d), sorted(xs), min(xs) -/
def keysI : List (Key × D) → Option (List Int)
  | [] => some []
  | (.inl k, _) :: r => (keysI r).map (k :: ·)
  | (.inr _, _) :: _ => none
theorem keysI_eq : ∀ {kvs : List (Key × D)} {ks : List Int}, keysI kvs = some ks → kvs.map (·.1) = ks.map Sum.inl
  | [], _, h => by cases h; rfl
  | (.inl k, _) :: r, ks, h => by
    unfold keysI at h
    cases c : keysI r with
    | none => rw [c] at h; cases h
    | some l =>
      rw [c] at h
      cases h
      rw [List.map_cons, List.map_cons, keysI_eq c]
  | (.inr _, _) :: _, _, h => by cases h
@[simp] def sortP (ds : List D) (ms : MS) : Res D := match ds with
  | [d] => match cellK ms d with
    | some (_, kvs) => match keysI kvs with
      | some ks => if ks.length < 64 then .ok (.lst ((rise ks).map D.int)) ms else .bad
      | none => .bad
    | none => match (rlOf ms d).bind intsOf with
      | some ns => .ok (.lst ((rise ns).map D.int)) ms
      | none => .bad
  | _ => .bad
theorem p_sort {K : PySem.W.Frag} {E : EW} : PC1 K E (fun xs H Q => (∃ (a : Addr) (kvs : List (Key × V)) (ks : List Int), xs = [.ref a] ∧ Rd H a (.dK kvs) ∧ kvs.map (·.1) = ks.map Sum.inl ∧ ks.length < 64 ∧
    ∀ (ys : List Int) (p : Addr), ys.Perm ks → ys.Pairwise (· ≤ ·) → H p = none → Q (.ref p) (upd H p (.lst (ys.map V.int)))) ∨ rSortedI K xs H Q) sortP := by
  intro ι H ms ds vs Q R r o
  match ds, r, o with
  | [], _, o1 => exact o1.elim
  | _ :: _ :: _, _, o1 => exact o1.elim
  | [d], r, o =>
    obtain ⟨v, rfl, rd⟩ := Rps.one r
    cases c : cellK ms d with
    | some z =>
      obtain ⟨n, kvs⟩ := z
      simp only [sortP, c] at o
      cases c2 : keysI kvs with
      | none => simp only [c2] at o; exact o.elim
      | some ks =>
        simp only [c2] at o
        by_cases hl : ks.length < 64
        · rw [if_pos hl] at o
          obtain ⟨p, us, rfl, hn, h1, hk⟩ := R.cellK c rd
          refine .inl ⟨p, us, ks, rfl, .inl h1, by rw [hk.ks]; exact keysI_eq c2, hl, fun ys q h1 h2 h3 => ?_⟩
          have e := rise_eq h1 h2
          subst e
          exact newL R o R .refl h3
        · rw [if_neg hl] at o; exact o.elim
    | none =>
      simp only [sortP, c] at o
      cases c1 : rlOf ms d with
      | none => simp only [c1, Option.bind_none] at o; exact o.elim
      | some xs =>
        cases c2 : intsOf xs with
        | none => simp only [c1, Option.bind_some, c2] at o; exact o.elim
        | some ns =>
          simp only [c1, Option.bind_some, c2] at o
          obtain ⟨a, ys, rfl, rs, hq⟩ := R.rl c1 rd
          rw [ints_rp c2 rs] at hq
          refine .inr ⟨a, ns, rfl, hq, fun ys q h1 h2 h3 => ?_⟩
          have e := rise_eq h1 h2
          subst e
          exact newL R o R .refl h3
theorem d_sort (hc : X.calm = true) (hg : Gl X "sorted") (hm : X.mg "sorted" = none) (ha : DA X E (e :: es) fs)
    (he : starEach (e :: es) X.env = (false, eval e X.env) :: starEach es X.env := by rfl) (hpl : (backTo pos (starEach es X.env)).any (·.1) = false := by rfl) : DE X E (.Call (.Name "sorted" p) (e :: es) [] pos) (appE fs sortP) :=
  d_blt ((call_sortedDI hc).or cr_sortedI) p_sort hg hm (by decide +kernel) ha (he := he) (hpl := hpl)
@[simp] def minP : List D → MS → Res D := lst1 intsOf fun ns ms => match ns.min? with
  | some m => .ok (.int m) ms
  | none => .bad
theorem p_min {K : PySem.W.Frag} {E : EW} : PC1 K E (rMin K) minP := fun ι H ms ds vs Q R r o => by
  obtain ⟨a, xs, es, bs, rfl, hq, rs, e, o'⟩ := lst1_ok R r o
  rw [intsOf_eq e] at rs
  rw [rs.ints] at hq
  cases hm : bs.min? with
  | none => simp only [hm] at o'; exact o'.elim
  | some m =>
    simp only [hm] at o'
    have h1 := List.min?_mem hm
    refine ⟨a, bs, rfl, hq, List.length_pos_of_mem h1, fun m' hm' hle => ?_⟩
    have h2 : m ≤ m' := (List.min?_eq_some_iff.mp hm).2 m' hm'
    have h3 := hle m h1
    have e : m' = m := by omega
    subst e
    exact o' _ ι H R .refl rfl
end
end DL

set_option maxHeartbeats 1000000
namespace DL
open PySem PySem.Spec L2
open PyProof.Rows hiding St

/-! ### *xs in a display, pop(i), reverse, list(x), dict(d), len(d) -/
@[simp] def starA (f : Env → MS → Res D) (g : Env → MS → Res (List D)) (env : Env) (ms : MS) : Res (List D) := (f env ms).bind fun a ms1 => match seqOf ms1 a with
  | some ds => (g env ms1).bind fun r ms2 => .ok (ds ++ r) ms2
  | none => .bad
@[simp] def popAtM (fo fi : Env → MS → Res D) (env : Env) (ms : MS) : Res D := (fo env ms).bind fun o ms1 => match cellL ms1 o with
  | none => .bad
  | some _ => (fi env ms1).bind fun i ms2 => match cellL ms2 o with
    | some (n, ds) => match i with
      | .int k => if 0 ≤ k ∧ k < 2 ^ 62 then match ds[k.toNat]? with
        | some y => .ok y (ms2.set n (.lst (ds.eraseIdx k.toNat)))
        | none => .bad else .bad
      | _ => .bad
    | none => .bad
@[simp] def revM (fo : Env → MS → Res D) (env : Env) (ms : MS) : Res D := (fo env ms).bind fun o ms1 => match cellL ms1 o with
  | some (n, ds) => .ok .non (ms1.set n (.lst ds.reverse))
  | none => .bad
@[simp] def listP (mk : List D → MS → Res D) (ds : List D) (ms : MS) : Res D := match ds with
  | [d] => match seqOf ms d with
    | some xs => mk xs ms
    | none => .bad
  | _ => .bad
@[simp] def dcopyP (ds : List D) (ms : MS) : Res D := match ds with
  | [d] => match cellK ms d with
    | some (_, kvs) => .ok (.ptr ms.length) (ms ++ [.dK kvs])
    | none => .bad
  | _ => .bad
@[simp] def lenDP (ds : List D) (ms : MS) : Res D := match ds with
  | [d] => match cellK ms d with
    | some (_, kvs) => .ok (.int (kvs.length : Int)) ms
    | none => .bad
  | _ => .bad
section
variable {X : Cx} {E : EW} {o e i : Expr} {es : List Expr} {fo fi fe : Env → MS → Res D} {fs : Env → MS → Res (List D)} {apos pos p : Pos}
theorem a_star (he : DE X E e fe) (hr : DA X E es fs) (hs : starEach (.Starred e p :: es) X.env = (true, eval e X.env) :: starEach es X.env := by rfl) : DA X E (.Starred e p :: es) (starA fe fs) :=
  PA.conv (StX.pa_star he hr hs) fun σ H Q ⟨ι, env, ms, r0, ev, q⟩ => by
    refine tR_seq r0 ev q fun ι1 H1 ms1 d x B1 o1 => ?_
    cases c : seqOf ms1 d with
    | none => simp only [c] at o1; exact o1.elim
    | some ds =>
      simp only [c] at o1
      obtain ⟨a, xs, rfl, rs, hq⟩ := B1.rel.seq c B1.r
      refine ⟨a, xs, rfl, hq.symm, ?_⟩
      refine tR_seq B1.rel B1.env o1 fun ι2 H2 ms2 r ys B2 o2 => ?_
      exact o2 _ ι2 H2 B2.rel .refl ((Rps.mono B2.le _ _ rs).append B2.r)
theorem d_popAt (ho : DE X E o fo) (hi : DE X E i fi) (hbase : attributeBase o "pop" X.env (eval o X.env) = eval o X.env := by rfl)
    (hfew : (((backTo pos (starEach [i] X.env)).all fun x => !x.1) && (backToKw pos (keywordEach [] X.env)).all (·.1.isSome) && decide ([i].length + ([] : List Keyword).length + (if ([] : List Keyword).isEmpty then 0 else 1) < 30)) = true := by rfl)
    (hline : (apos.endLine == pos.line) = true := by rfl) (hs : starEach [i] X.env = (false, eval i X.env) :: starEach [] X.env := by rfl) (hplain : (backTo pos (starEach [] X.env)).any (·.1) = false := by rfl) :
    DE X E (.Call (.Attribute o "pop" apos) [i] [] pos) (popAtM fo fi) :=
  PE.conv (pe_bm PySem.F.plainAttrs_list PySem.F.slot_list_pop PySem.F.type_list_pop mt_popAt ho (a_cons hi a_nil hs) (hbase := hbase) (hfew := hfew) (hline := hline) (hs := hs) (hplain := hplain)) fun σ H Q ⟨ι, env, ms, r, ev, q⟩ => by
    refine tR_seq r ev q fun ι1 H1 ms1 d x B o1 => ?_
    cases q1 : cellL ms1 d with
    | none => simp only [q1] at o1; exact o1.elim
    | some z =>
      obtain ⟨n, ds⟩ := z
      simp only [q1] at o1
      obtain ⟨p, xs, rfl, hn, h1, h2⟩ := B.rel.cellL q1 B.r
      refine ⟨seq_tyL h1, ι1, env, ms1, B.rel, B.env, ?_⟩
      unfold consA
      cases q2 : fi env ms1 with
      | bad => simp only [q2] at o1; exact o1
      | exc y ms2 => simp only [q2] at o1; exact o1
      | ok y ms2 =>
        simp only [q2, bind_ok] at o1
        simp only [bind_ok, nilA]
        intro vs ι2 H2 R2 l2 rv
        obtain ⟨v, rfl, ry⟩ := rv.one
        cases q3 : cellL ms2 d with
        | none => simp only [q3] at o1; exact o1.elim
        | some z =>
          obtain ⟨m, es⟩ := z
          simp only [q3] at o1
          obtain ⟨p', ys, e1, hm, h3, h4⟩ := R2.cellL q3 (Rp.mono l2 _ _ B.r)
          cases e1
          cases y with
          | int k =>
            simp only at o1
            by_cases hk : 0 ≤ k ∧ k < 2 ^ 62
            · rw [if_pos hk] at o1
              cases q4 : es[k.toNat]? with
              | none => simp only [q4] at o1; exact o1.elim
              | some y =>
                simp only [q4] at o1
                obtain ⟨w, e5, rw'⟩ := h4.get q4
                have hlt := (List.getElem?_eq_some_iff.mp e5).1
                have wr := Le.write (o := .lst (ys.eraseIdx k.toNat)) R2 hm
                have hix : seqIndex? k ys.length = some k.toNat := by
                  unfold seqIndex?
                  simp
                  omega
                have re : Rps X.K ι2 H2 (es.eraseIdx k.toNat) (ys.eraseIdx k.toNat) := by
                  rw [List.eraseIdx_eq_take_drop_succ, List.eraseIdx_eq_take_drop_succ]
                  exact (h4.take _).append (h4.drop _)
                refine ⟨p, ys, k, k.toNat, w, rfl, ?_, h3, by omega, by omega, hix, e5, ?_⟩
                · have : v = .int k := ry
                  rw [this]
                · exact o1 _ ι2 _ (R2.write hm ⟨_, upd_same, Rps.mono wr _ _ re⟩) (l2.trans wr) (Rp.mono wr _ _ rw')
            · rw [if_neg hk] at o1; exact o1.elim
          | _ => exact o1.elim
theorem d_rev (ho : DE X E o fo) (hbase : attributeBase o "reverse" X.env (eval o X.env) = eval o X.env := by rfl)
    (hline : (apos.endLine == pos.line) = true := by rfl) : DE X E (.Call (.Attribute o "reverse" apos) [] [] pos) (revM fo) :=
  PE.conv (pe_bm0 PySem.F.plainAttrs_list PySem.F.slot_list_reverse PySem.F.type_list_reverse mt_reverse ho (hbase := hbase) (hline := hline)) fun σ H Q ⟨ι, env, ms, r, ev, q⟩ => by
    refine tR_seq r ev q fun ι1 H1 ms1 d x B o1 => ?_
    cases q1 : cellL ms1 d with
    | none => simp only [q1] at o1; exact o1.elim
    | some z =>
      obtain ⟨n, ds⟩ := z
      simp only [q1] at o1
      obtain ⟨p, xs, rfl, hn, h1, h2⟩ := B.rel.cellL q1 B.r
      have w := Le.write (o := .lst xs.reverse) B.rel hn
      exact ⟨seq_tyL h1, p, xs, rfl, rfl, h1, o1 _ ι1 _ (B.rel.write hn ⟨_, upd_same, Rps.mono w _ _ h2.reverse⟩) w rfl⟩
theorem p_list {mk : List D → MS → Res D} {K : PySem.W.Frag} {E : EW} (hmk : ∀ (ι : Ct) (H : Hp) (ms : MS) (ds : List D) (xs : List V) (Q : VK), Rel K ι H ms → Rps K ι H ds xs → Out K E (Rp K) ι H (mk ds ms) Q → xs.length ≤ sizeLine ∧ ∀ p, H p = none → Q (.ref p) (upd H p (.lst xs))) :
    PC1 K E (fun xs H Q => ∃ p ys, xs = [.ref p] ∧ (SqL K H p ys ∨ SqT K H p ys) ∧ ∀ l, H l = none → Q (.ref l) (upd H l (.lst ys))) (listP mk) := by
  intro ι H ms ds vs Q R r o
  match ds, r, o with
  | [], _, o1 => exact o1.elim
  | _ :: _ :: _, _, o1 => exact o1.elim
  | [d], r, o =>
    obtain ⟨v, rfl, rd⟩ := Rps.one r
    cases c : seqOf ms d with
    | none => simp only [listP, c] at o; exact o.elim
    | some xs =>
      simp only [listP, c] at o
      obtain ⟨a, ys, rfl, rs, hq⟩ := R.seq c rd
      exact ⟨a, ys, rfl, hq, (hmk ι H ms xs ys Q R rs o).2⟩
theorem d_list (hg : Gl X "list") (hm : X.mg "list" = none) (ha : DA X E (e :: es) fs)
    (he : starEach (e :: es) X.env = (false, eval e X.env) :: starEach es X.env := by rfl) (hpl : (backTo pos (starEach es X.env)).any (·.1) = false := by rfl) : DE X E (.Call (.Name "list" p) (e :: es) [] pos) (appE fs (listP mkLst)) :=
  d_bty call_list_of (p_list fun ι H ms ds xs Q R r o => mkLst_ok R r o) hg hm (by decide +kernel) ha (he := he) (hpl := hpl)
theorem d_listM (hg : Gl X "list") (hm : X.mg "list" = none) (ha : DA X E (e :: es) fs)
    (he : starEach (e :: es) X.env = (false, eval e X.env) :: starEach es X.env := by rfl) (hpl : (backTo pos (starEach es X.env)).any (·.1) = false := by rfl) : DE X E (.Call (.Name "list" p) (e :: es) [] pos) (appE fs (listP mkMut)) :=
  d_bty call_list_of (p_list fun ι H ms ds xs Q R r o => mkMut_ok R r o) hg hm (by decide +kernel) ha (he := he) (hpl := hpl)
theorem p_dcopy {K : PySem.W.Frag} {E : EW} : PC1 K E (fun xs H Q => ∃ (a : Addr) (kvs : List (Key × V)), xs = [.ref a] ∧ Rd H a (.dK kvs) ∧ ∀ p, H p = none → Q (.ref p) (upd H p (.dK kvs))) dcopyP := by
  intro ι H ms ds vs Q R r o
  match ds, r, o with
  | [], _, o1 => exact o1.elim
  | _ :: _ :: _, _, o1 => exact o1.elim
  | [d], r, o =>
    obtain ⟨v, rfl, rd⟩ := Rps.one r
    cases c : cellK ms d with
    | none => simp only [dcopyP, c] at o; exact o.elim
    | some z =>
      obtain ⟨n, kvs⟩ := z
      simp only [dcopyP, c] at o
      obtain ⟨a, us, rfl, hn, h1, hk⟩ := R.cellK c rd
      refine ⟨a, us, rfl, .inl h1, fun q hq => ?_⟩
      have l := Le.newM (o := .dK us) R hq
      have hk2 := hk.mono l
      refine o _ (ι.push q) _ (R.newM hq ⟨us, upd_same, hk2.ks, hk2.rs⟩) l ⟨q, rfl, ?_⟩
      show (ι.a ++ [q])[ms.length]? = some q
      rw [← R.len, List.getElem?_append_right (Nat.le_refl _)]
      simp
theorem d_dcopy (hg : Gl X "dict") (hm : X.mg "dict" = none) (ha : DA X E (e :: es) fs)
    (he : starEach (e :: es) X.env = (false, eval e X.env) :: starEach es X.env := by rfl) (hpl : (backTo pos (starEach es X.env)).any (·.1) = false := by rfl) : DE X E (.Call (.Name "dict" p) (e :: es) [] pos) (appE fs dcopyP) :=
  d_bty call_dictD p_dcopy hg hm (by decide +kernel) ha (he := he) (hpl := hpl)
theorem p_lenD {K : PySem.W.Frag} {E : EW} : PC1 K E (fun xs H Q => ∃ a kvs, xs = [V.ref a] ∧ H a = some (.dK kvs) ∧ Q (.int kvs.length) H) lenDP := by
  intro ι H ms ds vs Q R r o
  match ds, r, o with
  | [], _, o1 => exact o1.elim
  | _ :: _ :: _, _, o1 => exact o1.elim
  | [d], r, o =>
    obtain ⟨v, rfl, rd⟩ := Rps.one r
    cases c : cellK ms d with
    | none => simp only [lenDP, c] at o; exact o.elim
    | some z =>
      obtain ⟨n, kvs⟩ := z
      simp only [lenDP, c] at o
      obtain ⟨a, us, rfl, hn, h1, hk⟩ := R.cellK c rd
      refine ⟨a, us, rfl, h1, ?_⟩
      rw [hk.len]
      exact o _ ι H R .refl rfl
theorem d_lenD (hg : Gl X "len") (hm : X.mg "len" = none) (ha : DA X E (e :: es) fs)
    (he : starEach (e :: es) X.env = (false, eval e X.env) :: starEach es X.env := by rfl) (hpl : (backTo pos (starEach es X.env)).any (·.1) = false := by rfl) : DE X E (.Call (.Name "len" p) (e :: es) [] pos) (appE fs lenDP) :=
  d_blt call_lenD p_lenD hg hm (by decide +kernel) ha (he := he) (hpl := hpl)
end
/-! ### o.f = .. within a tuple of targets -/
def gFld (K : PySem.W.Frag) (to : TE) (f : Str) : TG := fun v σ H Q => to σ H fun x H1 => ∃ a C dx fs, x = .ref a ∧ H1 a = some (.ins C dx fs) ∧ Cls K C ∧ NoAttr K C f ∧ fs.length < 1000 ∧ Q σ (upd H1 a (.ins C dx (putF f v fs)))
@[simp] def fldT (nm f : Str) (fo : Env → MS → Res D) : TF := fun d env ms => (fo env ms).bind fun o ms1 => match objOf nm ms1 o with
  | some (n, fs) => if fs.length < 1000 then .ok env (ms1.set n (.obj nm (putFD f d fs))) else .bad
  | none => .bad
section
variable {X : Cx} {E : EW} {o : Expr} {nm f : Str} {fl : List Str} {pos : Pos} {fo : Env → MS → Res D} {to : TE}
theorem pg_fld (ho : PE X o to) : PG X (.Attribute o f pos) (gFld X.K to f) := by
  refine ⟨fun pins s σ H v u Q I r h => ?_⟩
  rw [assign_Attribute]
  refine wpAny_bind (wpAny_holding (thn (ho.run pins s σ H _ I h) fun ov s1 ⟨x, H1, I1, rx, a, C, dx, fs, ex, ea, c, n, l, q2⟩ => ?_))
  subst ex
  obtain rfl : ov = Value.ref a := rx
  refine wpAny_bind (wpAny_standAt (wpAny_bind (wpAny_holding (setattr_ok I1 ea c n l r fun s3 I3 => ?_))))
  exact wpAny_release ⟨σ, _, I3, q2⟩
theorem g_fld (T : KC X.K X.mg nm fl) (hf : f ∈ fl) (ho : DE X E o fo) : DG X E (.Attribute o f pos) (fldT nm f fo) :=
  PG.conv (pg_fld ho) fun v σ H Q ⟨ι, env, ms, d, r, ev, rd, q⟩ => by
    have q' : OutT X.K E ι H ((fo env ms).bind fun o ms1 => match objOf nm ms1 o with | some (n, fs) => if fs.length < 1000 then .ok env (ms1.set n (.obj nm (putFD f d fs))) else .bad | none => .bad) Q := q
    refine ⟨ι, env, ms, r, ev, ?_⟩
    cases e : fo env ms with
    | bad => rw [e] at q'; exact q'
    | exc x ms1 => rw [e] at q'; exact q'
    | ok o1 ms1 =>
      rw [e] at q'
      simp only [bind_ok] at q'
      intro x ι1 H1 R1 l1 rx
      cases c : objOf nm ms1 o1 with
      | none => simp only [c] at q'; exact q'.elim
      | some z =>
        obtain ⟨j, fs⟩ := z
        simp only [c] at q'
        obtain ⟨_, a, dx, vs, rfl, hn, h1, hk⟩ := Rel.objOf T R1 c rx
        by_cases hl : fs.length < 1000
        · rw [if_pos hl] at q'
          have w := Le.write (o := .ins T.C dx (putF f v vs)) R1 hn
          have rv := Rp.mono l1 _ _ rd
          have h2 := (hk.put (f := f) rv).mono w
          exact ⟨a, T.C, dx, vs, rfl, h1, T.cl, T.no f hf, by rw [hk.len]; exact hl, q' σ ι1 _ (R1.write hn ⟨T.C, dx, _, T.ns, upd_same, h2.ks, h2.rs⟩) (l1.trans w) ((ev.mono l1).mono w)⟩
        · rw [if_neg hl] at q'; exact q'.elim
end
end DL

set_option maxHeartbeats 2000000
namespace DL
open PySem PySem.Spec L2
open PyProof.Rows hiding St

/-! ### sorted(d), int keys, any number of them -/
theorem call_sortedDX {X : Cx} (calm : X.calm = true) : CallR X (.builtin "sorted") (fun xs H Q => ∃ (a : Addr) (kvs : List (Key × V)) (ks : List Int), xs = [.ref a] ∧ H a = some (.dK kvs) ∧ kvs.map (·.1) = ks.map Sum.inl ∧ ks.length ≤ 1000 ∧
    ∀ (ys : List Int) (p : Addr), ys.Perm ks → ys.Pairwise (· ≤ ·) → H p = none → Q (.ref p) (upd H p (.lst (ys.map V.int)))) := by
  rintro pins s σ H xs us Q I r ⟨a, kvs, ks, rfl, hd, hks, few, q⟩
  obtain ⟨u, rfl, rx⟩ := vals1 r
  cases rx
  obtain ⟨zz, low, es, rel, dd⟩ := dk_rd I.hok (.inl hd)
  obtain ⟨ep, hat⟩ := dd.dictAt
  have ek : es.map (·.1) = ks.map Sum.inl := rel.keys.symm.trans hks
  have el : es.length = ks.length := by simpa using congrArg List.length ek
  have e16 : es.length ≤ sizeLine := by rw [el, sizeLine_eq]; omega
  apply Calls.call_function_entry PyProof.Rows.kind_sorted PyProof.Rows.plain_sorted PyProof.Rows.entry_sorted (PyProof.Rows.args_sorted1 _)
  unfold Builtin.«sorted»
  apply wpAny_bind (m := checkCount "sorted" 1 1 _); apply wpAny_pure
  refine wpAny_bind (PySem.W.kdu_collect (A := X.A.in1) (PySem.W.kdl_dict (knd := mixKind X.prog X.w) (kvs := es) (ep := ep) low) (I.ok.hd calm) hat e16 fun g tk acc hk ha => ?_)
  have al : acc.toList.length = ks.length := by rw [Array.length_toList, ha.1, el]
  have ia : IntsAre acc.toList ks := ints_each al fun j v e => by
    obtain ⟨k, y, z1, z2⟩ := ha.2 j v (by rwa [← Array.getElem?_toList])
    have z3 : (es.map (·.1))[j]? = some k := by rw [List.getElem?_map, z1]; rfl
    rw [ek, List.getElem?_map] at z3
    cases z4 : ks[j]? with
    | none => rw [z4] at z3; cases z3
    | some i =>
      rw [z4] at z3
      cases (show Sum.inl i = k from Option.some.inj z3)
      rcases keyIs_shape (show keyIs (Sum.inl i) v = true from z2) with ⟨i2, t, y1, y2⟩ | ⟨_, _, y1, _⟩
      · cases y1; exact ⟨i, t, rfl, y2⟩
      · cases y1
  have I1 : Inv X pins σ H { s with heap := g, toks := tk } := I.kept hk
  have sz : acc.toList.length ≤ sizeLine := by rw [al, sizeLine_eq]; omega
  apply wpAny_bind; apply wpAny_newList ?_ sz
  have ob : (g.push (seqObj "list" acc.toList.toArray 0)).get? g.objs.size = some (seqObj "list" acc.toList.toArray 0) := Heap.get?_push_size _ rfl
  change wpAny _ _ _ _ _ { s with heap := g.push (seqObj "list" acc.toList.toArray 0), toks := tk }
  refine wpAny_bind (wpAny_holding (wpAny_call_entry PyProof.Rows.slot_list_sort ⟨_, ob, rfl⟩ PyProof.Rows.entry_list_sort (SrtO.list_sort_ord SrtO.swo_int ob sz (fun h2 => SrtO.ints_sortable ia h2) fun out w1 w2 => ⟨_, rfl, ?_⟩) (PyProof.Rows.args_list_sort _)))
  obtain ⟨k1, k2, k3⟩ := SrtO.ints_out ia w1 w2
  obtain ⟨e', he'⟩ := PyProof.Rows.sortedHeap_at (vs := acc.toList) (out := out.toArray) ob
  have zl : ((out.map SrtO.iv).map V.int).length ≤ sizeLine := by rw [List.length_map, k2.length_eq, sizeLine_eq]; omega
  refine wpAny_pure ⟨_, rfl, .ref g.objs.size, upd H g.objs.size (.lst ((out.map SrtO.iv).map V.int)), I1.laid (t' := tk) (fun b u e => ?_) (Nat.le_refl _) ⟨zl, out, e', vals_of_ints k1, he'⟩, rfl, q _ _ k2 k3 (I1.hok.fresh (Nat.le_refl _))⟩
  have lb : b ≠ g.objs.size := Nat.ne_of_lt (Heap.lt_size e)
  rw [PyProof.Rows.sortedHeap_old lb (Nat.lt_trans (Heap.lt_size e) (by rw [Heap.size_push]; exact Nat.lt_succ_self _))]
  exact Heap.get?_push_of_some _ e
@[simp] def sortQ (ds : List D) (ms : MS) : Res D := match ds with
  | [d] => match cellK ms d with
    | some (_, kvs) => match keysI kvs with
      | some ks => if ks.length ≤ 1000 then .ok (.lst ((rise ks).map D.int)) ms else .bad
      | none => .bad
    | none => match (rlOf ms d).bind intsOf with
      | some ns => .ok (.lst ((rise ns).map D.int)) ms
      | none => .bad
  | _ => .bad
theorem p_sortQ {K : PySem.W.Frag} {E : EW} : PC1 K E (fun xs H Q => (∃ (a : Addr) (kvs : List (Key × V)) (ks : List Int), xs = [.ref a] ∧ H a = some (.dK kvs) ∧ kvs.map (·.1) = ks.map Sum.inl ∧ ks.length ≤ 1000 ∧
    ∀ (ys : List Int) (p : Addr), ys.Perm ks → ys.Pairwise (· ≤ ·) → H p = none → Q (.ref p) (upd H p (.lst (ys.map V.int)))) ∨ rSortedI K xs H Q) sortQ := by
  intro ι H ms ds vs Q R r o
  match ds, r, o with
  | [], _, o1 => exact o1.elim
  | _ :: _ :: _, _, o1 => exact o1.elim
  | [d], r, o =>
    obtain ⟨v, rfl, rd⟩ := Rps.one r
    cases c : cellK ms d with
    | some z =>
      obtain ⟨n, kvs⟩ := z
      simp only [sortQ, c] at o
      cases c2 : keysI kvs with
      | none => simp only [c2] at o; exact o.elim
      | some ks =>
        simp only [c2] at o
        by_cases hl : ks.length ≤ 1000
        · rw [if_pos hl] at o
          obtain ⟨p, us, rfl, hn, h1, hk⟩ := R.cellK c rd
          refine .inl ⟨p, us, ks, rfl, h1, by rw [hk.ks]; exact keysI_eq c2, hl, fun ys q h1 h2 h3 => ?_⟩
          have e := rise_eq h1 h2
          subst e
          exact newL R o R .refl h3
        · rw [if_neg hl] at o; exact o.elim
    | none =>
      simp only [sortQ, c] at o
      cases c1 : rlOf ms d with
      | none => simp only [c1, Option.bind_none] at o; exact o.elim
      | some xs =>
        cases c2 : intsOf xs with
        | none => simp only [c1, Option.bind_some, c2] at o; exact o.elim
        | some ns =>
          simp only [c1, Option.bind_some, c2] at o
          obtain ⟨a, ys, rfl, rs, hq⟩ := R.rl c1 rd
          rw [ints_rp c2 rs] at hq
          refine .inr ⟨a, ns, rfl, hq, fun ys q h1 h2 h3 => ?_⟩
          have e := rise_eq h1 h2
          subst e
          exact newL R o R .refl h3
theorem d_sortQ {X : Cx} {E : EW} {e : Expr} {es : List Expr} {fs : Env → MS → Res (List D)} {p pos : Pos} (hc : X.calm = true) (hg : Gl X "sorted") (hm : X.mg "sorted" = none) (ha : DA X E (e :: es) fs)
    (he : starEach (e :: es) X.env = (false, eval e X.env) :: starEach es X.env := by rfl) (hpl : (backTo pos (starEach es X.env)).any (·.1) = false := by rfl) : DE X E (.Call (.Name "sorted" p) (e :: es) [] pos) (appE fs sortQ) :=
  d_blt ((call_sortedDX hc).or cr_sortedI) p_sortQ hg hm (by decide +kernel) ha (he := he) (hpl := hpl)
end DL

set_option maxHeartbeats 1000000
namespace DL
open PySem PySem.Spec L2
open PyProof.Rows hiding St

/-! ### objects made with keyword-only parameters: by their defaults, by their names -/
@[simp] def constA (dv : List D) (_ : Env) (ms : MS) : Res (List D) := .ok dv ms
structure CalD (P : Program) (w : World) (K : PySem.W.Frag) (mg : Str → Option Value) (base : Heap) (k : Nat) (nm : Str) (ps : List Str) (sem : List D → MS → Res D) (dv : List D) where
  fl : List Str
  c : KC K mg nm fl
  f : Addr
  fd : FuncData
  ok : FnOk P w K mg base CX0 k f fd ps (dSp K ps.length sem)
  mkc : Mk K c.C f
  ds : List Value
  dvs : List V
  hd : Vals dvs ds
  rp : ∀ ι H, Rps K ι H dv dvs
  b : Binds K fd ps ds
structure CalK (P : Program) (w : World) (K : PySem.W.Frag) (mg : Str → Option Value) (base : Heap) (k : Nat) (nm : Str) (ps ks : List Str) (ix : List Nat) (sem : List D → MS → Res D) where
  fl : List Str
  c : KC K mg nm fl
  f : Addr
  fd : FuncData
  ok : FnOk P w K mg base CX0 k f fd ps (dSp K ps.length sem)
  mkc : Mk K c.C f
  b : KwB K fd ps 1 ks ix
@[simp] def makeKE (nm : Str) (n m : Nat) (ix : List Nat) (fk : Env → MS → Res (List D)) (sem : List D → MS → Res D) (env : Env) (ms : MS) : Res D := (fk env ms).bind fun ds ms1 => if ds.length = m then (callP n sem (pick ix (.ptr ms1.length :: ds)) (ms1 ++ [.obj nm []])).bind fun r ms2 => match r with
  | .non => .ok (.ptr ms1.length) ms2
  | _ => .bad else .bad
section
variable {X : Cx} {E : EW} {k n m : Nat} {ps ks : List Str} {ix : List Nat} {p pos : Pos} {kws : List Keyword} {fk : Env → MS → Res (List D)} {sem : List D → MS → Res D} {dv : List D}
/-- a new object and what stands behind it -/
theorem new_obj {K : PySem.W.Frag} {mg : Str → Option Value} {nm : Str} {fl : List Str} (T : KC K mg nm fl) {ι : Ct} {H : Hp} {ms : MS} (R : Rel K ι H ms) {x dx : Addr} (nx : H x = none) (ndx : H dx = none) (nex : dx ≠ x) :
    Rel K (ι.push x) (upd (upd H dx (.own x)) x (.ins T.C dx [])) (ms ++ [.obj nm []]) ∧ Le ι H (ι.push x) (upd (upd H dx (.own x)) x (.ins T.C dx [])) ∧ (ι.push x).a[ms.length]? = some x := by
  have R2 : Rel K ι (upd H dx (.own x)) ms := R.new ndx
  have l2 : Le ι H ι (upd H dx (.own x)) := Le.new R ndx
  have nx2 : (upd H dx (.own x)) x = none := by rw [upd_ne (fun z => nex z.symm)]; exact nx
  refine ⟨R2.newM nx2 ⟨T.C, dx, [], T.ns, upd_same, rfl, rfl⟩, l2.trans (Le.newM R2 nx2), ?_⟩
  show (ι.a ++ [x])[ms.length]? = some x
  rw [← R.len, List.getElem?_append_right (Nat.le_refl _)]
  simp
theorem made_out {K : PySem.W.Frag} {ι ι1 : Ct} {H H1 : Hp} {x : Addr} {n : Nat} {r : Res D} {Q : VK} (l : Le ι H ι1 H1) (hx : ι1.a[n]? = some x)
    (o : Out K E (Rp K) ι H ((noExc r).bind fun r ms2 => match r with | .non => .ok (.ptr n) ms2 | _ => .bad) Q) : Out K E00 (Rp K) ι1 H1 r (fun v H2 => v = .non ∧ Q (.ref x) H2) := by
  cases r with
  | bad => exact o
  | exc y ms2 => exact o.elim
  | ok a ms2 =>
    intro b ι4 H4 R4 l4 rb
    cases a with
    | non =>
      have rb' : b = .non := rb
      exact ⟨rb', o (.ref x) ι4 H4 R4 (l.trans l4) ⟨x, rfl, l4.at hx⟩⟩
    | _ => exact o.elim
theorem c_make0D {x : Str} (C : CalD X.prog X.w X.K X.mg X.base k x ps sem dv) (hr : Room (k + 1) X.A) (hg : Gl X x := by rfl) (hdb : (x == ("__debug__" : Str)) = false := by decide) (hn : ps.length = n := by rfl) : DE X E (.Call (.Name x p) [] [] pos) (makeE x n (constA dv) sem) := by
  subst hn
  refine PE.conv (pe_make0 C.mkc C.ok hr hg C.c.g C.b C.hd pass0 hdb) fun σ H Q ⟨ι, env, ms, r, ev, q⟩ => ?_
  intro y dx ny ndx ndy
  obtain ⟨R3, l3, hx⟩ := new_obj C.c r ny ndx ndy
  have q' : Out X.K E (Rp X.K) ι H ((callP ps.length sem (.ptr ms.length :: dv) (ms ++ [.obj x []])).bind fun r ms2 => match r with | .non => .ok (.ptr ms.length) ms2 | _ => .bad) Q := q
  unfold callP at q'
  by_cases hl : ((.ptr ms.length :: dv) : List D).length = ps.length
  · rw [if_pos hl] at q'
    exact ⟨ι.push y, ms ++ [.obj x []], .ptr ms.length :: dv, R3, ⟨_, C.dvs, rfl, ⟨y, rfl, hx⟩, C.rp _ _⟩, hl, made_out l3 hx q'⟩
  · rw [if_neg hl] at q'; exact q'.elim
theorem c_makeK {x : Str} (C : CalK X.prog X.w X.K X.mg X.base k x ps ks ix sem) (hr : Room (k + 1) X.A) (hkw : DK X E kws fk) (hg : Gl X x := by rfl)
    (hall : (backToKw pos (keywordEach kws X.env)).all (·.1.isSome) = true := by rfl) (hks : (backToKw pos (keywordEach kws X.env)).filterMap (·.1) = ks := by rfl) (hdb : (x == ("__debug__" : Str)) = false := by decide)
    (hpl : ((backTo pos (starEach [] X.env)).any (·.1) || (backToKw pos (keywordEach kws X.env)).any (·.1.isNone)) = false := by rfl) (hn : ps.length = n := by rfl) (hm : ks.length = m := by rfl) : DE X E (.Call (.Name x p) [] kws pos) (makeKE x n m ix fk sem) := by
  subst hn
  subst hm
  refine PE.conv (pe_makeK0 C.mkc C.ok hr hg C.c.g C.b.kbn pass0 hkw hall hks hdb hpl) fun σ H Q ⟨ι, env, ms, r, ev, q⟩ => ?_
  have q' : Out X.K E (Rp X.K) ι H ((fk env ms).bind fun ds ms1 => if ds.length = ks.length then (callP ps.length sem (pick ix (.ptr ms1.length :: ds)) (ms1 ++ [.obj x []])).bind fun r ms2 => match r with | .non => .ok (.ptr ms1.length) ms2 | _ => .bad else .bad) Q := q
  refine tR_seq r ev q' fun ι1 H1 ms1 ds us B o1 => ?_
  by_cases hd : ds.length = ks.length
  · rw [if_pos hd] at o1
    refine ⟨rfl, by rw [B.r.length]; exact hd, fun y dx ny ndx ndy => ?_⟩
    obtain ⟨R3, l3, hx⟩ := new_obj C.c B.rel ny ndx ndy
    unfold callP at o1
    by_cases hl : (pick ix (.ptr ms1.length :: ds)).length = ps.length
    · rw [if_pos hl] at o1
      have rs : Rps X.K (ι1.push y) (upd (upd H1 dx (.own y)) y (.ins C.c.C dx [])) (.ptr ms1.length :: ds) (.ref y :: us) := ⟨_, us, rfl, ⟨y, rfl, hx⟩, Rps.mono l3 _ _ B.r⟩
      exact ⟨ι1.push y, ms1 ++ [.obj x []], _, R3, pick_rps rs ix, hl, made_out l3 hx o1⟩
    · rw [if_neg hl] at o1; exact o1.elim
  · rw [if_neg hd] at o1; exact o1.elim
end
end DL

set_option maxHeartbeats 2000000
namespace DL
open PySem PySem.Spec L2
open PyProof.Rows hiding St

/-! ### comprehensions of two clauses -/
@[simp] def headOf (T : TF) (t : Env → MS → Res Bool) (env : Env) : D → MS → Res (Option Env) := fun d ms =>
  noExc ((T d env ms).bind fun env1 ms1 => (t env1 ms1).bind fun b ms2 => if b = true then .ok (some env1) ms2 else .ok none ms2)
@[simp] def innerOf (g1 : Env → MS → Res Src) (T1 : TF) (t1 : Env → MS → Res Bool) (f : Env → MS → Res D) (vs1 : List Nat) (env1 : Env) (acc : List D) (ms : MS) : Res (List D) :=
  (noExc (g1 env1 ms)).bind fun s ms1 => noExc (compLoop s.nx (stepOf T1 t1 f (wipeE env1 vs1)) s.n 0 acc ms1)
def compLoop2 (nx : Nat → MS → WOut) (head : D → MS → Res (Option Env)) (inner : Env → List D → MS → Res (List D)) : Nat → Nat → List D → MS → Res (List D)
  | 0, _, _, _ => .bad
  | n + 1, i, acc, ms => match nx i ms with
    | .bad => .bad
    | .stop => .ok acc ms
    | .item d => (head d ms).bind fun o ms1 => match o with
      | none => compLoop2 nx head inner n (i + 1) acc ms1
      | some env1 => (inner env1 acc ms1).bind fun acc1 ms2 => compLoop2 nx head inner n (i + 1) acc1 ms2
@[simp] def compE2 (mk : List D → MS → Res D) (g : Env → MS → Res Src) (T : TF) (t : Env → MS → Res Bool) (g1 : Env → MS → Res Src) (T1 : TF) (t1 : Env → MS → Res Bool) (f : Env → MS → Res D) (vs vs1 : List Nat) (env : Env) (ms : MS) : Res D :=
  (g env ms).bind fun s ms1 => (noExc (compLoop2 s.nx (headOf T t (wipeE env vs)) (innerOf g1 T1 t1 f vs1) s.n 0 [] ms1)).bind fun acc ms2 => mk acc ms2
section
variable {X : Cx} {E : EW}
theorem comp_read2 {mk : List D → MS → Res D} (hmk : EndOk mk) {K : PySem.W.Frag} {g g1 : Env → MS → Res Src} {gg gg1 : TG} {T T1 : TF} {t t1 : Env → MS → Res Bool} {f : Env → MS → Res D} {vs vs1 : List Nat} (tk : TOk K E00 vs gg T) (tk1 : TOk K E00 vs1 gg1 T1)
    {σ : St} {H : Hp} {Q : VK} (h : tD K E (compE2 mk g T t g1 T1 t1 f vs vs1) σ H Q) : tLc2 (tI K E g) gg (tT K E00 t) (tI K E00 g1) gg1 (tT K E00 t1) (tD K E00 f) vs vs1 σ H Q := by
  obtain ⟨ι, env, ms, r, ev, o⟩ := h
  refine ⟨ι, env, ms, r, ev, ?_⟩
  unfold compE2 at o
  cases q : g env ms with
  | bad => rw [q] at o; exact o
  | exc x ms1 => rw [q] at o; exact o
  | ok s ms1 =>
    simp only [q, bind_ok] at o
    intro J ι1 H1 us R1 l1 rs jok D0 h0
    have o := Out.from l1 o
    have hfr := R1.fresh h0
    refine ⟨fun i m H2 => ∃ ι2 ms2 acc xs, Rel K (ι2.ban D0) H2 ms2 ∧ EnvOk K (ι2.ban D0) H2 env σ ∧ Rps K (ι2.ban D0) H2 s.ds us ∧ Rps K (ι2.ban D0) H2 acc xs ∧ H2 D0 = some (.lst xs) ∧ ι2.f = ι1.f ∧ Le ι1 H1 ι2 H2 ∧ Out K E (Rp K) ι1 H1 ((noExc (compLoop2 s.nx (headOf T t (wipeE env vs)) (innerOf g1 T1 t1 f vs1) m i acc ms2)).bind fun acc ms2 => mk acc ms2) Q,
      ⟨s.n, ι1, ms1, [], [], R1.banned h0, EnvOk.banned R1 h0 (ev.mono l1), Rps.banned R1 h0 rs, rfl, upd_same, rfl, Le.new R1 h0, o⟩, ?_⟩
    rintro i m H2 ⟨ι2, ms2, acc, xs, R2, ev2, rs2, ra2, hD2, hf2, l2, o2⟩
    cases m with
    | zero => exact o2.elim
    | succ m =>
      have js := jok (ι2.ban D0) H2 ms2 i R2 rs2
      unfold compLoop2 at o2
      cases w : s.nx i ms2 with
      | bad => simp only [w] at o2; exact o2.elim
      | stop =>
        simp only [w] at o2
        rw [w] at js
        exact .inl ⟨js, hmk K E ι1 ι2 H1 H2 ms2 D0 acc xs Q R2 (by rw [hf2]; exact hfr.2) h0 l2 hD2 ra2 o2⟩
      | item d =>
        simp only [w] at o2
        rw [w] at js
        refine .inr ⟨js.1, fun H2 => ∃ ι2 ms2 acc xs, Rel K (ι2.ban D0) H2 ms2 ∧ EnvOk K (ι2.ban D0) H2 env σ ∧ Rps K (ι2.ban D0) H2 s.ds us ∧ Rps K (ι2.ban D0) H2 acc xs ∧ H2 D0 = some (.lst xs) ∧ ι2.f = ι1.f ∧ Le ι1 H1 ι2 H2 ∧ Out K E (Rp K) ι1 H1 ((noExc (compLoop2 s.nx (headOf T t (wipeE env vs)) (innerOf g1 T1 t1 f vs1) m (i + 1) acc ms2)).bind fun acc ms2 => mk acc ms2) Q,
          fun H' h => ⟨m, Nat.lt_succ_self m, h⟩, fun x H' hy => ?_⟩
        obtain ⟨R3, l3, rd⟩ := js.2 x H' hy
        -- what stands wherever the turn has come to
        have grown : ∀ {ι2 ι5 : Ct} {H2 H5 : Hp} {ms5 : MS} {xs : List V}, H2 D0 = some (.lst xs) → ι2.f = ι1.f → Le ι1 H1 ι2 H2 → Rel K ι5 H5 ms5 → Le (ι2.ban D0) H2 ι5 H5 → ∃ ι6, ι5 = ι6.ban D0 ∧ ι6.f = ι1.f ∧ Le ι1 H1 ι6 H5 ∧ H5 D0 = some (.lst xs) := fun {ι2 ι5 H2 H5 ms5 xs} hD2 hf2 l2 R5 l5 => by
          have e := ban_form l5
          refine ⟨⟨ι5.a, ι2.f⟩, e, hf2, Le.within (ι' := ⟨ι5.a, ι2.f⟩) h0 l2 (by rw [← e]; exact l5) rfl, ?_⟩
          rw [l5.keep D0 (List.mem_cons_self ..)]
          exact hD2
        simp only [headOf] at o2
        refine tk x (L2.wipe σ vs) σ H' _ wipe_wipe ⟨ι2.ban D0, wipeE env vs, ms2, d, R3, (ev2.wipe vs).mono l3, rd, ?_⟩
        cases q3 : T d (wipeE env vs) ms2 with
        | bad => simp only [q3] at o2; exact o2.elim
        | exc x ms3 => simp only [q3] at o2; exact o2.elim
        | ok env3 ms3 =>
          simp only [q3, bind_ok] at o2
          intro σ3 ι3 H3 R3' l3' ev3
          refine ⟨ι3, env3, ms3, R3', ev3, ?_⟩
          cases q4 : t env3 ms3 with
          | bad => simp only [q4] at o2; exact o2.elim
          | exc x ms4 => simp only [q4] at o2; exact o2.elim
          | ok b ms4 =>
            simp only [q4, bind_ok] at o2
            intro b' ι4 H4 R4 l4 eb
            obtain rfl : b' = b := eb
            have l24 := (l3.trans l3').trans l4
            cases b' with
            | false =>
              simp only [Bool.false_eq_true, if_false] at o2 ⊢
              obtain ⟨ι6, e6, f6, le6, hD6⟩ := grown hD2 hf2 l2 R4 l24
              rw [e6] at R4 l24
              exact ⟨ι6, ms4, acc, xs, R4, ev2.mono l24, Rps.mono l24 _ _ rs2, Rps.mono l24 _ _ ra2, hD6, f6, le6, o2⟩
            | true =>
              simp only [if_true] at o2 ⊢
              refine ⟨ι4, env3, ms4, R4, ev3.mono l4, ?_⟩
              simp only [noExc, bind_ok, innerOf] at o2
              cases q5 : g1 env3 ms4 with
              | bad => simp only [q5] at o2; exact o2.elim
              | exc x ms5 => simp only [q5] at o2; exact o2.elim
              | ok s1 ms5 =>
                simp only [q5, bind_ok] at o2
                intro J1 ι5 H5 us1 R5 l5 rs5 jok1
                have l25 := l24.trans l5
                have ev35 := (ev3.mono l4).mono l5
                obtain ⟨ι6, e6, f6, le6, hD6⟩ := grown hD2 hf2 l2 R5 l25
                have ev5 := ev2.mono l25
                have rsO := Rps.mono l25 _ _ rs2
                have raO := Rps.mono l25 _ _ ra2
                rw [e6] at R5 rs5 ev35 ev5 rsO raO
                refine ⟨fun j k H2 => ∃ ι7 ms7 acc xs, Rel K (ι7.ban D0) H2 ms7 ∧ EnvOk K (ι7.ban D0) H2 env3 σ3 ∧ EnvOk K (ι7.ban D0) H2 env σ ∧ Rps K (ι7.ban D0) H2 s1.ds us1 ∧ Rps K (ι7.ban D0) H2 s.ds us ∧ Rps K (ι7.ban D0) H2 acc xs ∧ H2 D0 = some (.lst xs) ∧ ι7.f = ι1.f ∧ Le ι1 H1 ι7 H2 ∧ Out K E (Rp K) ι1 H1 ((noExc ((noExc (compLoop s1.nx (stepOf T1 t1 f (wipeE env3 vs1)) k j acc ms7)).bind fun acc1 ms2 => compLoop2 s.nx (headOf T t (wipeE env vs)) (innerOf g1 T1 t1 f vs1) m (i + 1) acc1 ms2)).bind fun acc ms2 => mk acc ms2) Q,
                  ⟨s1.n, ι6, ms5, acc, xs, R5, ev35, ev5, rs5, rsO, raO, hD6, f6, le6, o2⟩, ?_⟩
                rintro j k H7 ⟨ι7, ms7, acc7, xs7, R7, ev7, evo7, rs7, rso7, ra7, hD7, hf7, l7, o7⟩
                cases k with
                | zero => exact o7.elim
                | succ k =>
                  have js1 := jok1 (ι7.ban D0) H7 ms7 j R7 rs7
                  unfold compLoop at o7
                  cases w1 : s1.nx j ms7 with
                  | bad => simp only [w1] at o7; exact o7.elim
                  | stop =>
                    simp only [w1] at o7
                    rw [w1] at js1
                    exact .inl ⟨js1, ι7, ms7, acc7, xs7, R7, evo7, rso7, ra7, hD7, hf7, l7, o7⟩
                  | item d1 =>
                    simp only [w1] at o7
                    rw [w1] at js1
                    refine .inr ⟨js1.1, fun H2 => ∃ ι7 ms7 acc xs, Rel K (ι7.ban D0) H2 ms7 ∧ EnvOk K (ι7.ban D0) H2 env3 σ3 ∧ EnvOk K (ι7.ban D0) H2 env σ ∧ Rps K (ι7.ban D0) H2 s1.ds us1 ∧ Rps K (ι7.ban D0) H2 s.ds us ∧ Rps K (ι7.ban D0) H2 acc xs ∧ H2 D0 = some (.lst xs) ∧ ι7.f = ι1.f ∧ Le ι1 H1 ι7 H2 ∧ Out K E (Rp K) ι1 H1 ((noExc ((noExc (compLoop s1.nx (stepOf T1 t1 f (wipeE env3 vs1)) k (j + 1) acc ms7)).bind fun acc1 ms2 => compLoop2 s.nx (headOf T t (wipeE env vs)) (innerOf g1 T1 t1 f vs1) m (i + 1) acc1 ms2)).bind fun acc ms2 => mk acc ms2) Q,
                      fun H' h => ⟨k, Nat.lt_succ_self k, h⟩, fun x1 H8 hy1 => ?_⟩
                    obtain ⟨R8, l8, rd8⟩ := js1.2 x1 H8 hy1
                    simp only [stepOf] at o7
                    refine tk1 x1 (L2.wipe σ3 vs1) σ3 H8 _ wipe_wipe ⟨ι7.ban D0, wipeE env3 vs1, ms7, d1, R8, (ev7.wipe vs1).mono l8, rd8, ?_⟩
                    cases q9 : T1 d1 (wipeE env3 vs1) ms7 with
                    | bad => simp only [q9] at o7; exact o7.elim
                    | exc x ms3 => simp only [q9] at o7; exact o7.elim
                    | ok env9 ms9 =>
                      simp only [q9, bind_ok] at o7
                      intro σ9 ι9 H9 R9 l9 ev9
                      refine ⟨ι9, env9, ms9, R9, ev9, ?_⟩
                      cases q10 : t1 env9 ms9 with
                      | bad => simp only [q10] at o7; exact o7.elim
                      | exc x ms4 => simp only [q10] at o7; exact o7.elim
                      | ok b ms10 =>
                        simp only [q10, bind_ok] at o7
                        intro b' ι10 H10 R10 l10 eb
                        obtain rfl : b' = b := eb
                        have l710 := (l8.trans l9).trans l10
                        cases b' with
                        | false =>
                          simp only [Bool.false_eq_true, if_false] at o7 ⊢
                          obtain ⟨ι11, e11, f11, le11, hD11⟩ := grown hD7 hf7 l7 R10 l710
                          rw [e11] at R10 l710
                          exact ⟨ι11, ms10, acc7, xs7, R10, ev7.mono l710, evo7.mono l710, Rps.mono l710 _ _ rs7, Rps.mono l710 _ _ rso7, Rps.mono l710 _ _ ra7, hD11, f11, le11, o7⟩
                        | true =>
                          simp only [if_true] at o7 ⊢
                          refine ⟨ι10, env9, ms10, R10, ev9.mono l10, ?_⟩
                          cases q11 : f env9 ms10 with
                          | bad => simp only [q11] at o7; exact o7.elim
                          | exc x ms5 => simp only [q11] at o7; exact o7.elim
                          | ok y ms11 =>
                            simp only [q11, bind_ok] at o7
                            intro yv ι11 H11 R11 l11 ry
                            have l711 := l710.trans l11
                            obtain ⟨ι12, e12, f12, le12, hD12⟩ := grown hD7 hf7 l7 R11 l711
                            rw [e12] at R11 l711 ry
                            have o8 : Out K E (Rp K) ι1 H1 ((noExc ((noExc (if acc7.length < LIM then compLoop s1.nx (stepOf T1 t1 f (wipeE env3 vs1)) k (j + 1) (acc7 ++ [y]) ms11 else .bad)).bind fun acc1 ms2 => compLoop2 s.nx (headOf T t (wipeE env vs)) (innerOf g1 T1 t1 f vs1) m (i + 1) acc1 ms2)).bind fun acc ms2 => mk acc ms2) Q := o7
                            by_cases hl : acc7.length < LIM
                            · rw [if_pos hl] at o8
                              have rx := Rps.mono l711 _ _ ra7
                              exact ⟨xs7, hD12, by rw [rx.length, ← lim_eq]; exact hl, ι12, ms11, acc7 ++ [y], xs7 ++ [yv], R11.put, EnvOk.put R11 (ev7.mono l711), EnvOk.put R11 (evo7.mono l711), Rps.put R11 (Rps.mono l711 _ _ rs7), Rps.put R11 (Rps.mono l711 _ _ rso7), Rps.put R11 (rx.append (Rps.mk1 ry)), upd_same, f12, Le.put R1 h0 le12, o8⟩
                            · rw [if_neg hl] at o8; exact o8.elim
theorem d_comp2 {mk : List D → MS → Res D} (hmk : EndOk mk) {elt tg iter tg1 iter1 : Expr} {ifs ifs1 : List Expr} {scope : Scope} {own : List (Str × Nat)} {vs1 : List Nat} {pos : Pos} {g g1 : Env → MS → Res Src} {gg gg1 : TG} {T T1 : TF} {t t1 : Env → MS → Res Bool} {f : Env → MS → Res D}
    (hc : X.calm = true) (hN : X.N.Nodup) (hi : DI X E tg iter g) (ok : BlkOk X.N X.env.scope scope own) (hv : ∀ i ∈ vs1, i ∈ own.map (·.2))
    (hg : ∀ (s : Shared) (H : Hp) (C : Addr) (cl : List (Str × Addr)) (fp : List Addr), PG (X.blk s H scope (compEnvC scope cl C X.env) fp) tg gg) (tk : TOk X.K E00 (own.map (·.2)) gg T)
    (ht : ∀ (s : Shared) (H : Hp) (C : Addr) (cl : List (Str × Addr)) (fp : List Addr), PTs (X.blk s H scope (compEnvC scope cl C X.env) fp) ifs (tT X.K E00 t))
    (hi1 : ∀ (s : Shared) (H : Hp) (C : Addr) (cl : List (Str × Addr)) (fp : List Addr), PI (X.blk s H scope (compEnvC scope cl C X.env) fp) tg1 iter1 (tI X.K E00 g1))
    (hg1 : ∀ (s : Shared) (H : Hp) (C : Addr) (cl : List (Str × Addr)) (fp : List Addr), PG (X.blk s H scope (compEnvC scope cl C X.env) fp) tg1 gg1) (tk1 : TOk X.K E00 vs1 gg1 T1)
    (ht1 : ∀ (s : Shared) (H : Hp) (C : Addr) (cl : List (Str × Addr)) (fp : List Addr), PTs (X.blk s H scope (compEnvC scope cl C X.env) fp) ifs1 (tT X.K E00 t1))
    (he : ∀ (s : Shared) (H : Hp) (C : Addr) (cl : List (Str × Addr)) (fp : List Addr), PE (X.blk s H scope (compEnvC scope cl C X.env) fp) elt (tD X.K E00 f)) (hs : ∀ x, foldedSetIterable iter X.env x = pure x := by intro _; rfl) (hs1 : ∀ env x, foldedSetIterable iter1 env x = pure x := by intro _ _; rfl) :
    DE X E (.ListComp elt [⟨tg, iter, ifs, 0⟩, ⟨tg1, iter1, ifs1, 0⟩] scope pos) (compE2 mk g T t g1 T1 t1 f (own.map (·.2)) vs1) :=
  PE.conv (pe_lc2 hc hN hi ok hv hg ht hi1 hg1 ht1 he hs hs1) fun _ _ _ h => comp_read2 hmk tk tk1 h
theorem s_setComp2 {mk : List D → MS → Res D} (hmk : EndOk mk) {i : Nat} {y : Str} {py spos : Pos} {elt tg iter tg1 iter1 : Expr} {ifs ifs1 : List Expr} {scope : Scope} {own : List (Str × Nat)} {vs1 : List Nat} {pos : Pos} {g g1 : Env → MS → Res Src} {gg gg1 : TG} {T T1 : TF} {t t1 : Env → MS → Res Bool} {f : Env → MS → Res D}
    (hc : X.calm = true) (hN : X.N.Nodup) (hy : X.N[i]? = some y) (hyl : X.env.scope.names.lookup y = some .local)
    (hsw : swapsWith (.ListComp elt [⟨tg, iter, ifs, 0⟩, ⟨tg1, iter1, ifs1, 0⟩] scope pos) (some (.Name y py)) spos.line X.env = pure true) (hi : DI X E tg iter g) (ok : BlkOk X.N X.env.scope scope own) (hv : ∀ i ∈ vs1, i ∈ own.map (·.2))
    (hg : ∀ (s : Shared) (H : Hp) (C : Addr) (cl : List (Str × Addr)) (fp : List Addr), PG (X.blk s H scope (compEnvC scope cl C X.env) fp) tg gg) (tk : TOk X.K E00 (own.map (·.2)) gg T)
    (ht : ∀ (s : Shared) (H : Hp) (C : Addr) (cl : List (Str × Addr)) (fp : List Addr), PTs (X.blk s H scope (compEnvC scope cl C X.env) fp) ifs (tT X.K E00 t))
    (hi1 : ∀ (s : Shared) (H : Hp) (C : Addr) (cl : List (Str × Addr)) (fp : List Addr), PI (X.blk s H scope (compEnvC scope cl C X.env) fp) tg1 iter1 (tI X.K E00 g1))
    (hg1 : ∀ (s : Shared) (H : Hp) (C : Addr) (cl : List (Str × Addr)) (fp : List Addr), PG (X.blk s H scope (compEnvC scope cl C X.env) fp) tg1 gg1) (tk1 : TOk X.K E00 vs1 gg1 T1)
    (ht1 : ∀ (s : Shared) (H : Hp) (C : Addr) (cl : List (Str × Addr)) (fp : List Addr), PTs (X.blk s H scope (compEnvC scope cl C X.env) fp) ifs1 (tT X.K E00 t1))
    (he : ∀ (s : Shared) (H : Hp) (C : Addr) (cl : List (Str × Addr)) (fp : List Addr), PE (X.blk s H scope (compEnvC scope cl C X.env) fp) elt (tD X.K E00 f)) (hs : ∀ x, foldedSetIterable iter X.env x = pure x := by intro _; rfl) (hs1 : ∀ env x, foldedSetIterable iter1 env x = pure x := by intro _ _; rfl) :
    DS X E (.Assign [.Name y py] (.ListComp elt [⟨tg, iter, ifs, 0⟩, ⟨tg1, iter1, ifs1, 0⟩] scope pos) spos) (setS i (compE2 mk g T t g1 T1 t1 f (own.map (·.2)) vs1)) :=
  PS.conv (ps_setLc2 hc hN hy hyl hsw hi ok hv hg ht hi1 hg1 ht1 he hs hs1) fun σ H D ⟨ι, env, ms, r, ev, o⟩ => comp_read2 hmk tk tk1 (Q := fun x H1 => gName i x σ H1 D.nx) (by
    have z : tR X.K E (Rp X.K) (compE2 mk g T t g1 T1 t1 f (own.map (·.2)) vs1) σ H (fun x H1 => gName i x σ H1 D.nx) := tR_seqS r ev o fun ι1 H1 ms1 a b B o1 => o1 _ ι1 H1 B.rel .refl (B.env.set B.r i)
    exact z)
end
end DL

set_option maxHeartbeats 1000000
namespace DL
open PySem PySem.Spec L2
open PyProof.Rows hiding St

/-! ### module dicts whose values are tuples of texts -/
def KTabT (K : PySem.W.Frag) (d : Addr) (tbl : List (Str × Option (List Str))) : Prop := ∀ z r, tbl.lookup z = some r → match r with
  | none => PySem.W.nsIn K d z = some none
  | some ss => ∃ (p : Addr) (dd : Option Addr) (us : Array Value) (n : Nat) (sl : Array (Option Value)), PySem.W.nsIn K d z = some (some (.ref p)) ∧ K.lookup p = some ⟨.type "tuple", dd, .seq us n, sl⟩ ∧ us.size ≤ sizeLine ∧ Vals (ss.map V.str) us.toList
structure KMT (K : PySem.W.Frag) (w : World) (mg : Str → Option Value) (x : Str) (tbl : List (Str × Option (List Str))) where
  d : Addr
  es : Array DictEntry
  n : Nat
  k : KDict K w d es n
  t : KTabT K d tbl
  g : mg x = some (.ref d)
@[simp] def kgtE (tbl : List (Str × Option (List Str))) (f : Env → MS → Res D) (env : Env) (ms : MS) : Res D := (f env ms).bind fun d ms1 => match d with
  | .str z => match tbl.lookup z with
    | some (some ss) => .ok (.tup (ss.map D.str)) ms1
    | some none => .ok .non ms1
    | none => .bad
  | _ => .bad
section
variable {X : Cx} {E : EW} {i : Expr} {f : Env → MS → Res D} {x : Str} {tbl : List (Str × Option (List Str))} {p pos apos : Pos}
theorem pe_kgt {ti : TE} (C : KMT X.K X.w X.mg x tbl) (hi : PE X i ti) (hg : Gl X x) (hdb : (x == ("__debug__" : Str)) = false) (m : M1 X (.Name x p) "get" apos i pos) :
    PE X (.Call (.Attribute (.Name x p) "get" apos) [i] [] pos) (fun σ H Q => ti σ H fun y H1 => ∃ (z : Str) (r : Option Value) (v0 : V), y = .str z ∧ PySem.W.nsIn X.K C.d z = some r ∧ RelV v0 (r.getD .none) ∧ Q v0 H1) := by
  refine ⟨fun pins s σ H Q I h => ?_⟩
  refine wpAny_Call_method m.base m.few m.line PySem.F.plainAttrs_dict PySem.F.slot_dict_get PySem.F.type_dict_get (thn ((pe_glob (pos := p) hg C.g (v := .ref C.d) rfl hdb).run pins s σ H (fun y H' => y = .ref C.d ∧ H' = H) I ⟨rfl, rfl⟩) fun u s1 ⟨y, H1, I1, ry, ey, eH⟩ => ?_)
  subst eH
  subst ey
  obtain rfl : u = Value.ref C.d := ry
  refine ⟨kd_type C.k I1, (PySem.W.mapOf_K (prog := X.prog) (w := X.w) I1.kIn C.k.at_ C.k.lit).noDict, ?_⟩
  rw [m.trees]
  refine Calls.callWith_builtin rfl (Calls.evalArgs_plain (Calls.spliced_cons (thn (hi.run pins s1 σ H1 _ I1 h) fun iv s2 ⟨y, H2, I2, ry, z, r, v0, ez, e, rv, q2⟩ => Calls.spliced_nil ?_)))
  subst ez
  obtain ⟨t, rfl⟩ := ry
  exact call_meetsIn PySem.F.slot_dict_get (kd_type C.k I2) PySem.F.entry_dict_get (PySem.F.args_dict_get_2 _ _) (meets_dict_get (PySem.strKind X.prog X.w) C.d (PySem.strKind_is X.prog X.w z t) C.k.low) ⟨_, PySem.W.mapOf_K (prog := X.prog) I2.kIn C.k.at_ C.k.lit, by
    rw [PySem.W.find_K C.k.at_ e]
    exact ⟨v0, H2, I2.tok _, rv, q2⟩⟩
theorem d_kgt (C : KMT X.K X.w X.mg x tbl) (hi : DE X E i f) (hg : Gl X x := by rfl) (hdb : (x == ("__debug__" : Str)) = false := by decide) (m : M1 X (.Name x p) "get" apos i pos := by exact ⟨rfl, rfl, rfl, rfl⟩) : DE X E (.Call (.Attribute (.Name x p) "get" apos) [i] [] pos) (kgtE tbl f) :=
  PE.conv (pe_kgt C hi hg hdb m) fun σ H Q ⟨ι, env, ms, r, ev, o⟩ => tR_seq r ev o fun ι1 H1 ms1 d y B1 o1 => by
    cases d with
    | str z =>
      cases q : tbl.lookup z with
      | none => simp only [q] at o1; exact o1.elim
      | some r =>
        have ht := C.t z r q
        cases r with
        | none =>
          simp only [q] at o1
          exact ⟨z, _, .non, B1.r, ht, rfl, o1 _ ι1 H1 B1.rel .refl rfl⟩
        | some ss =>
          simp only [q] at o1
          obtain ⟨pp, dd, us, n, sl, h1, h2, h3, h4⟩ := ht
          exact ⟨z, _, .ref pp, B1.r, h1, rfl, o1 _ ι1 H1 B1.rel .refl (gtup ss h2 h3 h4 _ _)⟩
    | _ => exact o1.elim
end
def KTabTL (K : PySem.W.Frag) (d : Addr) : List (Str × Option (List Str)) → Prop
  | [] => True
  | (z, none) :: r => PySem.W.nsIn K d z = some none ∧ KTabTL K d r
  | (z, some ss) :: r => (∃ (p : Addr) (dd : Option Addr) (us : Array Value) (n : Nat) (sl : Array (Option Value)), PySem.W.nsIn K d z = some (some (.ref p)) ∧ K.lookup p = some ⟨.type "tuple", dd, .seq us n, sl⟩ ∧ us.size ≤ sizeLine ∧ Vals (ss.map V.str) us.toList) ∧ KTabTL K d r
theorem KTabTL.tab {K : PySem.W.Frag} {d : Addr} : ∀ {tbl : List (Str × Option (List Str))}, KTabTL K d tbl → KTabT K d tbl
  | [], _ => fun z r h => by cases h
  | (z0, none) :: l, h => fun z r e => by
    unfold List.lookup at e
    cases q : z == z0 with
    | true =>
      rw [q] at e
      cases e
      have : z = z0 := eq_of_beq q
      subst this
      exact h.1
    | false =>
      rw [q] at e
      exact KTabTL.tab h.2 z r e
  | (z0, some y) :: l, h => fun z r e => by
    unfold List.lookup at e
    cases q : z == z0 with
    | true =>
      rw [q] at e
      cases e
      have : z = z0 := eq_of_beq q
      subst this
      exact h.1
    | false =>
      rw [q] at e
      exact KTabTL.tab h.2 z r e
end DL

set_option maxHeartbeats 1000000
namespace HT
open PySem PySem.Spec PySem.W
theorem rev2_bounds (n : Nat) : sliceBounds (some (-2)) none (some (-1)) n = (max (-1) ((n : Int) - 2), -1, -1) := by
  unfold sliceBounds
  simp
  omega
theorem rev2_range (n : Nat) : sliceRange (max (-1) ((n : Int) - 2)) (-1) (-1) = (List.range (n - 1)).reverse := by
  cases n with
  | zero => rfl
  | succ m =>
    rw [show max (-1) (((m + 1 : Nat) : Int) - 2) = (m : Int) - 1 by omega, krv_sliceRange, krv_range]
    rfl
theorem fm_congr {α β : Type} {f g : α → Option β} : ∀ {l : List α}, (∀ x ∈ l, f x = g x) → l.filterMap f = l.filterMap g
  | [], _ => rfl
  | a :: l, h => by rw [List.filterMap_cons, List.filterMap_cons, h a (List.mem_cons_self ..), fm_congr fun x hx => h x (List.mem_cons_of_mem _ hx)]
theorem range_run {α : Type} (xs : Array α) (k : Nat) (h : k ≤ xs.size) : (List.range k).filterMap (xs[·]?) = xs.toList.take k := by
  have e := krv_all (xs.extract 0 k)
  have hs : (xs.extract 0 k).size = k := by simp [h]
  rw [hs] at e
  rw [show xs.toList.take k = (xs.extract 0 k).toList by simp, ← e]
  refine fm_congr fun i hi => ?_
  have hi' := List.mem_range.mp hi
  show xs[i]? = (xs.extract 0 k)[i]?
  rw [Array.getElem?_extract]
  simp [hi', Nat.min_eq_left h]
theorem rev2_pick (items : Array Value) : slicePick items (some (-2)) none (some (-1)) = (items.toList.reverse.drop 1).toArray := by
  unfold slicePick
  rw [rev2_bounds]
  show ((sliceRange (max (-1) ((items.size : Int) - 2)) (-1) (-1)).filterMap (items[·]?)).toArray = _
  rw [rev2_range, List.filterMap_reverse, range_run _ _ (Nat.sub_le _ _), List.drop_reverse, Array.length_toList]
end HT
namespace DL
open PySem PySem.Spec L2
open PyProof.Rows hiding St

/-! ### xs[-2::-1] of a list -/
def tRevL2 (K : PySem.W.Frag) (te : TE) : TE := fun σ H Q => te σ H fun x H1 => ∃ a xs, x = .ref a ∧ SqL K H1 a xs ∧ ∀ p, H1 p = none → Q (.ref p) (upd H1 p (.lst (xs.reverse.drop 1)))
section
variable {X : Cx} {E : EW} {e : Expr} {te : TE} {f : Env → MS → Res D} {k k0 : Nat} {p1 p2 p3 p4 p5 pos : Pos}
theorem pe_revL2 (he : PE X e te) : PE X (.Subscript e (.Slice (some (.UnaryOp .USub (.Constant (.int 2) k0 p4) p5)) none (some (.UnaryOp .USub (.Constant (.int 1) k p1) p2)) p3) pos) (tRevL2 X.K te) := by
  refine ⟨fun pins s σ H Q I h => ?_⟩
  refine Subscript_ (thn (he.run pins s σ H _ I h) fun v s1 ⟨x, H1, I1, r1, q1⟩ => ?_)
  obtain ⟨a, xs, ex, hx, q⟩ := q1
  subst ex
  cases r1
  have hst : PO X (some (.UnaryOp .USub (.Constant (.int 1) k p1) p2)) (tPart (tUn (rU fun i => .int (-i)) (tC (.int 1)))) := po_some (pe_un un_neg pe_int)
  have hlo : PO X (some (.UnaryOp .USub (.Constant (.int 2) k0 p4) p5)) (tPart (tUn (rU fun i => .int (-i)) (tC (.int 2)))) := po_some (pe_un un_neg pe_int)
  refine wpAny_Slice (thn (hlo.run pins s1 σ H1 (fun o H2 => o = some (-2) ∧ H2 = H1) I1 ⟨2, rfl, -2, rfl, rfl, rfl⟩) fun vl s2 ⟨l, H2, I2, pl, el, e2⟩ => ?_)
  subst el e2
  refine thn (po_none.run pins s2 σ H2 (fun o H3 => o = none ∧ H3 = H2) I2 ⟨rfl, rfl⟩) fun vu s3 ⟨u, H3, I3, pu, eu, e3⟩ => ?_
  subst eu e3
  refine thn (hst.run pins s3 σ H3 (fun o H4 => o = some (-1) ∧ H4 = H3) I3 ⟨1, rfl, -1, rfl, rfl, rfl⟩) fun vs s4 ⟨o, H4, I4, ps, eo, e4⟩ => ?_
  subst eo e4
  have I5 : Inv X pins σ H4 { s4 with heap := s4.heap.push { cls := .type "slice", data := .fields #[vl, vu, vs] } } := I4.kept (t' := s4.toks) fun b ob q => Heap.get?_push_of_some _ q
  obtain ⟨its, r, ht, hz⟩ := I5.list hx
  have hlen := r.length
  refine tail_any (ops := [.ref a, .ref s4.heap.objs.size]) ht.isList.typeIs (PySem.slot_list_getitem.lookup) ?_ (by with_unfolding_all rfl)
  refine wpAny_getItem_list_slice ht.isList (Heap.IsSliceOf.new _ vl vu vs) pl pu ps (by decide) ?_ (by rw [List.size_toArray]; omega)
  rw [HT.rev2_pick]
  refine ⟨.ref _, _, I5.laid (t' := s4.toks) (o := .lst (xs.reverse.drop 1)) (fun b ob q => Heap.get?_push_of_some _ q) (Nat.le_refl _) ?_, rfl, q _ (I5.hok.fresh (Nat.le_refl _))⟩
  refine ⟨by rw [List.length_drop, List.length_reverse]; omega, _, 0, ?_, Heap.get?_push_size _ rfl⟩
  exact (vals_reverse r).drop 1
@[simp] def revL2 (f : Env → MS → Res D) (env : Env) (ms : MS) : Res D := (f env ms).bind fun d ms1 => match rlOf ms1 d with
  | some ds => mkLst (ds.reverse.drop 1) ms1
  | none => .bad
theorem d_revL2 (he : DE X E e f) : DE X E (.Subscript e (.Slice (some (.UnaryOp .USub (.Constant (.int 2) k0 p4) p5)) none (some (.UnaryOp .USub (.Constant (.int 1) k p1) p2)) p3) pos) (revL2 f) :=
  PE.conv (pe_revL2 he) fun σ H Q ⟨ι, env, ms, r, ev, o⟩ => tR_seq r ev o fun ι1 H1 ms1 d x B o1 => by
    cases q : rlOf ms1 d with
    | none => simp only [q] at o1; exact o1.elim
    | some ds =>
      simp only [q] at o1
      obtain ⟨p, xs, rfl, rs, hq⟩ := B.rel.rl q B.r
      exact ⟨p, xs, rfl, hq, (mkLst_ok B.rel (rs.reverse.drop 1) o1).2⟩
end
end DL

set_option maxHeartbeats 1000000
namespace HT
open PySem PySem.Spec PySem.Calls PyProof.Rows L2
def sel (start stop step : Int) (i : Nat) : Bool :=
  if step > 0 then start ≤ i && i < stop && (i - start) % step == 0
  else stop < i && i ≤ start && (start - i) % (-step) == 0
def keepF (a c : Int) (xs : Array Value) : Array Value := (xs.toList.zipIdx.filterMap fun (x, k) => if sel a c 1 k then none else some x).toArray
theorem keep_eq (its : List Value) (a : Nat) : keepF (a : Int) (its.length : Int) its.toArray = (its.take a).toArray := by
  unfold keepF
  congr 1
  have h : ∀ (l : List Value) (j n : Nat), j + l.length = n → (l.zipIdx j).filterMap (fun (p : Value × Nat) => if sel (a : Int) (n : Int) 1 p.2 then none else some p.1) = l.take (a - j) := by
    intro l
    induction l with
    | nil => intro j n _; simp
    | cons x l ih =>
      intro j n hj
      simp at hj
      rw [List.zipIdx_cons, List.filterMap_cons]
      have e : sel (a : Int) (n : Int) 1 j = decide (a ≤ j) := by
        unfold sel
        rw [if_pos (by decide)]
        by_cases h : a ≤ j
        · have h1 : (a : Int) ≤ j := by omega
          have h2 : (j : Int) < n := by omega
          simp [h, h1, h2, Int.emod_one]
        · have h1 : ¬ (a : Int) ≤ j := by omega
          simp [h, h1]
      simp only [e]
      rw [ih (j + 1) n (by omega)]
      by_cases h : a ≤ j
      · simp only [decide_eq_true h, if_true]
        rw [show a - j = 0 by omega, show a - (j + 1) = 0 by omega]
        simp
      · simp only [decide_eq_false h, Bool.false_eq_true, if_false]
        rw [show a - j = (a - (j + 1)) + 1 by omega]
        simp
  simpa using h its 0 its.length (by simp)
section
variable {prog : Program} {w : World} {A : Around} {E : Value → Shared → Prop} {s : Shared}
theorem from_run {a n : Nat} (ha : a ≤ n) : sliceBounds (some (a : Int)) none none n = ((a : Int), (n : Int), 1) := by
  simp only [sliceBounds, Option.getD_none]
  have h1 : ¬ ((a : Int) < 0) := by omega
  simp only [h1, if_false, show (1 : Int) > 0 by decide, if_true]
  congr 1
  omega
set_option maxRecDepth 100000 in
theorem delItem_from {l sl : Addr} {items : Array Value} {n : Nat} {vl : Value} {a : Nat} {Q : Unit → Shared → Prop}
    (e : s.heap.get? l = some { cls := .type "list", data := .seq items n })
    (hs : s.heap.IsSliceOf sl vl .none .none) (pl : IsPart vl (some (a : Int))) (ha : a ≤ items.size)
    (hsz : items.size ≤ sizeLine) (h : Q () { s with heap := s.heap.update l (Obj.mapSeq (keepF (a : Int) (items.size : Int))) }) :
    wpAny (model prog w) A (delItem (.ref l) (.ref sl)) Q E s := by
  have hl : s.heap.IsList l items := PySem.IsL.isList e
  obtain ⟨os, hos, hcs, hds⟩ := id hs
  have hTs : s.TypeIs (.ref sl) "slice" := ⟨os, hos, hcs⟩
  have hstep : ¬ ((rawPart none == rawInt 0) = true) := Bool.false_ne_true
  unfold delItem
  try with_reducible refine wpAny_holding ?_
  first | refine wpAny_bind (wpAny_pure ?_) | skip
  refine wpAny_bind (wpAny_sequenceKey hl.typeIs (by decide) ?_)
  refine wpAny_bind (wpAny_callSpecial?_slot (name := Str.ofString "__delitem__") hl.typeIs PySem.F.slot_list_delitem
    (wpAny_call_entry PySem.F.slot_list_delitem hl.typeIs PySem.F.entry_list_delitem ?_ (PySem.F.args_list_delitem_2 _ _)))
  show wpAny _ _ (Builtin.List.listSubscript? (.ref sl) >>= _) _ _ s
  refine wpAny_bind ?_
  unfold Builtin.List.listSubscript?
  refine wpAny_bind (wpAny_specialOf hTs slice_no_index ?_)
  simp only [Option.isNone_none, if_true]
  refine wpAny_pure ?_
  show wpAny _ _ (typeOf (.ref sl) >>= _) _ _ s
  refine wpAny_bind (wpAny_typeOf hTs ?_)
  first
    | rw [if_neg (by decide)]
    | refine PySem.W.KFB.if_not (by decide) ?_
  rw [listSliceParts_eq]
  refine wpAny_bind (wpAny_bind (wpAny_field hos hds (x := .none) rfl (wpAny_bind (wpAny_listPart .none ?_))))
  rw [if_neg hstep]
  refine wpAny_bind (wpAny_field hos hds (x := vl) rfl (wpAny_bind (wpAny_listPart pl ?_)))
  refine wpAny_bind (wpAny_field hos hds (x := .none) rfl (wpAny_bind (wpAny_listPart .none (wpAny_pure ?_))))
  refine wpAny_bind (wpAny_bind (wpAny_seqItems e rfl (wpAny_pure ?_)))
  refine wpAny_bind (wpAny_of_eq ((sliceIndices_raw (some (a : Int)) none none items.size (by simp)).trans (congrArg (pure : Int × Int × Int → Sem (Int × Int × Int)) (from_run ha))) ?_)
  refine wpAny_bind (wpAny_rule ?_)
  show wpAny _ _ (updateSeq l (keepF (a : Int) (items.size : Int)) >>= _) _ _ s
  refine wpAny_bind (wpAny_updateSeq (hz := hsz) (_hz' := ?_) e rfl ?_)
  · refine wpAny_bind (wpAny_letGo ?_)
    first
      | exact wpAny_bind (wpAny_pure (wpAny_pure ⟨.none, rfl, wpAny_pure h⟩))
      | exact wpAny_pure ⟨.none, rfl, wpAny_pure h⟩
  · have : (keepF (a : Int) (items.size : Int) items).size ≤ items.size := by
      unfold keepF
      rw [List.size_toArray]
      exact Nat.le_trans (List.length_filterMap_le ..) (by simp)
    omega
end
end HT
namespace DL
open PySem PySem.Spec L2
open PyProof.Rows hiding St

/-! ### del xs[a:] of a list -/
def tDelF (to ti : TE) : TS := fun D σ H => to σ H fun x H1 => ∃ l, x = .ref l ∧ tPart ti σ H1 fun y H2 => ∃ (xs : List V) (a : Nat), y = some (a : Int) ∧ H2 l = some (.lst xs) ∧ a ≤ xs.length ∧ D.nx σ (upd H2 l (.lst (xs.take a)))
section
variable {X : Cx} {E : EW} {o i : Expr} {to ti : TE} {tpos pos p3 : Pos} {f g : Env → MS → Res D}
theorem ps_delF (ho : PE X o to) (hi : PE X i ti) : PS X (.Delete [.Subscript o (.Slice (some i) none none p3) tpos] pos) (tDelF to ti) := by
  refine ⟨fun pins s σ H D I h => ?_⟩
  refine wpAny_Delete (wpAny_deleteEach_cons (wpAny_delete_Subscript (thn (ho.run pins s σ H _ I h) fun u s1 ⟨x, H1, I1, rx, l, ex, q1⟩ => ?_)))
  subst ex
  cases (show u = Value.ref l from rx)
  refine wpAny_Slice (thn ((po_some hi).run pins s1 σ H1 (fun o H2 => ∃ (xs : List V) (a : Nat), o = some (a : Int) ∧ H2 l = some (.lst xs) ∧ a ≤ xs.length ∧ D.nx σ (upd H2 l (.lst (xs.take a)))) I1 q1) fun vl s2 ⟨lo, H2, I2, pl, xs, a, el, hH, ha, q⟩ => ?_)
  subst el
  refine thn (po_none.run pins s2 σ H2 (fun o H3 => o = none ∧ H3 = H2) I2 ⟨rfl, rfl⟩) fun vu s3 ⟨u, H3, I3, pu, eu, e3⟩ => ?_
  subst eu e3
  refine thn (po_none.run pins s3 σ H3 (fun o H4 => o = none ∧ H4 = H3) I3 ⟨rfl, rfl⟩) fun vs s4 ⟨o, H4, I4, ps, eo, e4⟩ => ?_
  subst eo e4
  cases pu
  cases ps
  have I5 : Inv X pins σ H4 { s4 with heap := s4.heap.push { cls := .type "slice", data := .fields #[vl, .none, .none] } } := I4.kept (t' := s4.toks) fun b ob q => Heap.get?_push_of_some _ q
  obtain ⟨z, its, n, r, hl, e⟩ := I5.lstM hH
  have hlen := r.length
  refine HT.delItem_from (a := a) e (Heap.IsSliceOf.new _ vl .none .none) pl (by rw [List.size_toArray]; omega) (by rw [List.size_toArray]; omega) ?_
  refine wpAny_deleteEach_nil ⟨σ, _, I5.lset (its' := its.take a) (t' := s4.toks) hH e ?_ (r.take a) ?_, q⟩
  · rw [List.size_toArray]
    exact HT.keep_eq its a
  · rw [List.length_take]
    omega
@[simp] def delF (fo fi : Env → MS → Res D) : SF := fun env ms => (fo env ms).bind fun o ms1 => match cellL ms1 o with
  | none => .bad
  | some _ => (fi env ms1).bind fun i ms2 => match cellL ms2 o with
    | none => .bad
    | some (n, ds) => match i with
      | .int k => if 0 ≤ k ∧ k ≤ ds.length then .ok (.nx, env) (ms2.set n (.lst (ds.take k.toNat))) else .bad
      | _ => .bad
theorem s_delF (ho : DE X E o f) (hi : DE X E i g) : DS X E (.Delete [.Subscript o (.Slice (some i) none none p3) tpos] pos) (delF f g) :=
  PS.conv (ps_delF ho hi) fun σ H D' ⟨ι, env, ms, r, ev, q⟩ => by
    refine tR_seqS r ev q fun ι1 H1 ms1 d x B1 o1 => ?_
    cases c : cellL ms1 d with
    | none => simp only [c] at o1; exact o1.elim
    | some z0 =>
      obtain ⟨n0, ds0⟩ := z0
      simp only [c] at o1
      obtain ⟨p0, xs0, rfl, hn0, h10, hk0⟩ := B1.rel.cellL c B1.r
      refine ⟨p0, rfl, tR_seqS B1.rel B1.env o1 fun ι2 H2 ms2 j y B2 o2 => ?_⟩
      cases c2 : cellL ms2 d with
      | none => simp only [c2] at o2; exact o2.elim
      | some z =>
        obtain ⟨n, ds⟩ := z
        obtain ⟨p, xs, ep, hn, h1, hk⟩ := B2.rel.cellL c2 (Rp.mono B2.le _ _ B1.r)
        cases ep
        cases j with
        | int k =>
          simp only [c2] at o2
          by_cases hl : 0 ≤ k ∧ k ≤ ds.length
          · rw [if_pos hl] at o2
            have w := Le.write (o := .lst (xs.take k.toNat)) B2.rel hn
            have h2 := Rps.mono w _ _ (hk.take k.toNat)
            refine ⟨k, B2.r, xs, k.toNat, by rw [Int.toNat_of_nonneg hl.1], h1, by rw [hk.length]; omega, o2 σ ι2 _ (B2.rel.write hn ⟨_, upd_same, h2⟩) w (B2.env.mono w)⟩
          · rw [if_neg hl] at o2; exact o2.elim
        | _ => simp only [c2] at o2; exact o2.elim
end
end DL

set_option maxHeartbeats 1000000
namespace DL
open PySem PySem.Spec L2
open PyProof.Rows hiding St

/-! ### exceptions: raise, what a def lets out, try -/
/-- the dict of an exception in the air -/
def XH (H : Hp) (d : Option Addr) : Option (Str × Int) → Prop
  | none => d = none
  | some (f, i) => ∃ dx, d = some dx ∧ H dx = some (.xd [(f, .int i)])
/-- the class of an exception, as a value; its field -/
def ClsIs (K : PySem.W.Frag) (H : Hp) (x : Exc) (cls : Value) (d : Option Addr) : Prop := XH H d x.a ∧ ∃ C, cls = .ref C ∧ PySem.W.nsIn K mainGlobals x.c = some (some (.ref C))
def WofE (K : PySem.W.Frag) (E : EW) : WX := fun cls d σ H => ∃ x ι, ClsIs K H x cls d ∧ EnvOk K ι H x.env σ ∧ E x ι H
def EofW (K : PySem.W.Frag) (W : WX) : EW := fun x ι H => ∀ σ cls d, EnvOk K ι H x.env σ → ClsIs K H x cls d → W cls d σ H
def ofX (K : PySem.W.Frag) (EX : XK) : EW := fun x _ H => ∀ cls d, ClsIs K H x cls d → EX cls d H
section
variable {X : Cx} {E : EW} {W : WX} {EX : XK}
theorem takes_E (tk : Takes X W) : Takes X (WofE X.K (EofW X.K W)) := tk.imp fun c d σ H ⟨x, ι, h1, h2, h3⟩ => h3 σ c d h2 h1
theorem takesN : Takes X (WofE X.K E00) := takes0.imp fun c d σ H ⟨x, ι, h1, h2, h3⟩ => h3
theorem takes_def (tk : Takes X (fun cls d _ H => EX cls d H)) : Takes X (WofE X.K (ofX X.K EX)) := tk.imp fun c d σ H ⟨x, ι, h1, h2, h3⟩ => h3 c d h1
end
@[simp] def atEnv {α : Type} (env : Env) (r : Res α) : Res α := match r with
  | .exc x ms => .exc ⟨x.c, x.a, env⟩ ms
  | .ok a ms => .ok a ms
  | .bad => .bad
@[simp] def callX (n : Nat) (sem : List D → MS → Res D) (env : Env) (ds : List D) (ms : MS) : Res D := if ds.length = n then atEnv env (sem ds ms) else .bad
@[simp] def callXE (fs : Env → MS → Res (List D)) (p : Env → List D → MS → Res D) (env : Env) (ms : MS) : Res D := (fs env ms).bind fun ds ms1 => p env ds ms1
def dSpX (K : PySem.W.Frag) (n : Nat) (sem : List D → MS → Res D) : Sp := fun vs H Q EX => ∃ ι ms ds, Rel K ι H ms ∧ Rps K ι H ds vs ∧ ds.length = n ∧ Out K (ofX K EX) (Rp K) ι H (sem ds ms) Q
theorem out_at {K : PySem.W.Frag} {E : EW} {ι : Ct} {H : Hp} {r : Res D} {Q : VK} {env : Env} {σ : St} (ev : EnvOk K ι H env σ) (o : Out K E (Rp K) ι H (atEnv env r) Q) : Out K (ofX K (WE (WofE K E) σ)) (Rp K) ι H r Q := by
  cases r with
  | bad => exact o
  | ok a ms => exact o
  | exc x ms => exact fun ι' H' R l cls d hc => ⟨⟨x.c, x.a, env⟩, ι', hc, ev.mono l, o ι' H' R l⟩
theorem outS_runX {K : PySem.W.Frag} {E : EW} {ι : Ct} {H : Hp} {N : Nat} {B : SF} {ds : List D} {ms : MS} {Q : VK} (o : Out K E (Rp K) ι H (runF N B ds ms) Q) : OutS K E ι H (B (envAt N ds) ms) { nx := fun _ H' => Q .non H', rt := Q } := by
  unfold runF at o
  cases q : B (envAt N ds) ms with
  | bad => rw [q] at o; exact o
  | exc x ms1 => rw [q] at o; exact o
  | ok a ms1 =>
    rw [q] at o
    obtain ⟨fl, env1⟩ := a
    cases fl with
    | nx => exact fun σ' ι' H' R l _ => o .non ι' H' R l rfl
    | brk => exact o.elim
    | cont => exact o.elim
    | ret d => exact o
open Classical in
/-- as runT, for what may raise -/
noncomputable def runTX (N : Nat) (B : SF) (args : List D) (ms : MS) : Res D := match runF N B args ms with
  | .bad => .bad
  | .ok d ms1 => match frz ms.length ms1 d with
    | some d' => if Tidy ms.length ms ms1 then .ok d' (ms1.take ms.length) else .bad
    | none => .bad
  | .exc x ms1 => if Tidy ms.length ms ms1 then .exc ⟨x.c, x.a, []⟩ (ms1.take ms.length) else .bad
section
variable {P : Program} {w : World} {K : PySem.W.Frag} {mg : Str → Option Value} {base : Heap} {x qual : Str} {st : Stmt} {f : Addr} {fd : FuncData} {N ps : List Str} {k : Nat} {B : SF}
theorem fn_runX (F : Fun K x qual st f fd) (S : FnScope N ps (defScope st))
    (hb : ∀ (cdv : Value) (A : Around) (outer : List PySem.Env) (s : Shared) (H : Hp) (EX : XK), Room k (A.deeper (PyProof.Rows.envOfC qual (defScope st) s.heap.objs.size f cdv)) → Takes (cxOf (L2.CX P w) P w K mg base N qual (defScope st) f cdv A outer s H EX) (WofE K (ofX K EX)) →
      PSs (cxOf (L2.CX P w) P w K mg base N qual (defScope st) f cdv A outer s H EX) (defBody st) (tS K (ofX K EX) B)) : FnOk P w K mg base (L2.CX P w) (k + 1) f fd ps (dSpX K ps.length (runF N.length B)) :=
  F.okX S (fun vs H Q E ⟨ι, ms, ds, R, r, hl, o⟩ => r.length.trans hl) fun cdv A outer s H vs Q E hr ⟨ι, ms, ds, R, r, hl, o⟩ => ⟨_, hb cdv A outer s H E hr (takes_def (takes_of rfl rfl rfl rfl)), ι, _, ms, R, env_at r, outS_runX o⟩
theorem fn_runTX (F : Fun K x qual st f fd) (S : FnScope N ps (defScope st))
    (hb : ∀ (cdv : Value) (A : Around) (outer : List PySem.Env) (s : Shared) (H : Hp) (EX : XK), Room k (A.deeper (PyProof.Rows.envOfC qual (defScope st) s.heap.objs.size f cdv)) → Takes (cxOf (L2.CX P w) P w K mg base N qual (defScope st) f cdv A outer s H EX) (WofE K (ofX K EX)) →
      PSs (cxOf (L2.CX P w) P w K mg base N qual (defScope st) f cdv A outer s H EX) (defBody st) (tS K (ofX K EX) B)) : FnOk P w K mg base (L2.CX P w) (k + 1) f fd ps (dSpX K ps.length (runTX N.length B)) :=
  (fn_runX F S hb).imp fun vs H Q EX ⟨ι, ms, ds, R, r, hl, o⟩ => ⟨ι, ms, ds, R, r, hl, by
    unfold runTX at o
    cases q : runF N.length B ds ms with
    | bad => rw [q] at o; exact o
    | exc x ms1 =>
      simp only [q] at o
      intro ι1 H1 R1 l1 cls d hc
      by_cases t : Tidy ms.length ms ms1
      · rw [if_pos t] at o
        obtain ⟨R2, l2⟩ := R.cut l1 R1 t
        exact o ι H1 R2 l2 cls d hc
      · rw [if_neg t] at o; exact o.elim
    | ok d ms1 =>
      simp only [q] at o
      intro v ι1 H1 R1 l1 rd
      cases z : frz ms.length ms1 d with
      | none => simp only [z] at o; exact o.elim
      | some d' =>
        simp only [z] at o
        by_cases t : Tidy ms.length ms ms1
        · rw [if_pos t] at o
          obtain ⟨R2, l2⟩ := R.cut l1 R1 t
          exact o v ι H1 R2 l2 (Rp.frz l1 R1 _ R.len.symm d d' v z rd)
        · rw [if_neg t] at o; exact o.elim⟩
/-- a def that lets nothing out is one of those that may -/
theorem FnOk.toX {ps : List Str} {n : Nat} {sem : List D → MS → Res D} (F : FnOk P w K mg base CX0 k f fd ps (dSp K n sem)) : FnOk P w K mg base (L2.CX P w) k f fd ps (dSpX K n fun ds ms => noExc (sem ds ms)) :=
  ⟨fun vs H Q E ⟨ι, ms, ds, R, r, hl, o⟩ => F.len vs H Q E ⟨ι, ms, ds, R, r, hl, out_noExc o⟩, fun A outer s H args us vs Q E hr e0 b rv ⟨ι, ms, ds, R, r, hl, o⟩ =>
    codeAny_mono (F.run A outer s H args us vs Q E hr e0 b rv ⟨ι, ms, ds, R, r, hl, out_noExc o⟩) fun r s' z => by
      cases r with
      | error e => exact False.elim z
      | ok fl => cases fl <;> exact z⟩
end
/-- a def of the text that may raise -/
structure CalX (P : Program) (w : World) (K : PySem.W.Frag) (mg : Str → Option Value) (base : Heap) (k : Nat) (x : Str) (ps : List Str) (sem : List D → MS → Res D) where
  f : Addr
  fd : FuncData
  ok : FnOk P w K mg base (L2.CX P w) k f fd ps (dSpX K ps.length sem)
  g : mg x = some (.ref f)
  kp : PySem.W.keepIn K (.ref f) = true
  b : Binds K fd ps []
section
variable {X : Cx} {E : EW} {k n : Nat} {ps : List Str} {x : Str} {p pos : Pos} {e : Expr} {es : List Expr} {fs fk : Env → MS → Res (List D)} {sem : List D → MS → Res D}
theorem c_callX (C : CalX X.prog X.w X.K X.mg X.base k x ps sem) (tk : Takes X (WofE X.K E)) (hr : Room k X.A) (ha : DA X E (e :: es) fs) (hg : Gl X x := by rfl) (hdb : (x == ("__debug__" : Str)) = false := by decide) (he : starEach (e :: es) X.env = (false, eval e X.env) :: starEach es X.env := by rfl) (hpl : (backTo pos (starEach es X.env)).any (·.1) = false := by rfl)
    (hn : ps.length = n := by rfl) : DE X E (.Call (.Name x p) (e :: es) [] pos) (callXE fs (callX n sem)) := by
  subst hn
  exact PE.conv (pe_callS C.ok hr hg C.g C.kp C.b (fun σ => passAt tk σ) ha hdb he hpl) fun σ H Q ⟨ι, env, ms, r, ev, o⟩ => tR_seq r ev o fun ι1 H1 ms1 ds vs B o1 => by
    unfold callX at o1
    by_cases h : ds.length = ps.length
    · rw [if_pos h] at o1
      exact ⟨ι1, ms1, ds, B.rel, B.r, h, out_at B.env o1⟩
    · rw [if_neg h] at o1; exact o1.elim
/-! keywords -/
theorem run_fnNS {CX : CXT} {f : Addr} {fd : FuncData} {sp : Sp} {EX : XK} {ks : List Str} {g : List Value → List Value → List Value} {gV : List V → List V → List V} {pins : List (Addr × Obj)} {σ : St} {H : Hp} {s : Shared} {Q : VK} {us ws : List Value} {vs zs : List V} (F : FnOk X.prog X.w X.K X.mg X.base CX k f fd ps sp) (hr : Room k X.A) (hb : KBn X.K fd ps n ks g gV) (hx : PassesAt CX X σ EX)
    (I : Inv X pins σ H s) (r : Vals vs us) (rz : Vals zs ws) (l1 : vs.length = n) (l2 : zs.length = ks.length) (h : sp (gV vs zs) H Q EX) : wpAny (model X.prog X.w) X.A (call (.ref f) us (ks.zip ws)) (EP X pins σ Q) X.xe s := by
  have r2 := hb.rel r rz
  refine wpAny_call (codeAny_mono (F.run X.A X.stack s H ⟨us, ks.zip ws⟩ (g us ws) (gV vs zs) Q EX hr I.env0 (hb.to s us ws I.kIn (r.length.symm.trans l1) (rz.length.symm.trans l2)) r2 h) fun r s' hq => ?_)
  cases r with
  | error e => exact hx pins H s e s' I hq
  | ok fl =>
    cases fl with
    | ret u => exact I.after hq
    | next => exact False.elim hq
    | brk => exact False.elim hq
    | cont => exact False.elim hq
@[simp] def kwX (np n m : Nat) (ix : List Nat) (sem : List D → MS → Res D) (env : Env) (ds es : List D) (ms : MS) : Res D := if ds.length = n ∧ es.length = m ∧ (pick ix (ds ++ es)).length = np then atEnv env (sem (pick ix (ds ++ es)) ms) else .bad
@[simp] def kwXE (fs fk : Env → MS → Res (List D)) (p : Env → List D → List D → MS → Res D) (env : Env) (ms : MS) : Res D := (fs env ms).bind fun ds ms1 => (fk env ms1).bind fun es ms2 => p env ds es ms2
theorem c_callKX0 {np m : Nat} {ks : List Str} {ix : List Nat} {kws : List Keyword} (C : CalX X.prog X.w X.K X.mg X.base k x ps sem) (tk : Takes X (WofE X.K E)) (hr : Room k X.A) (hb : KwB X.K C.fd ps 0 ks ix)
    (hkw : DK X E kws fk) (hg : Gl X x := by rfl) (hall : (backToKw pos (keywordEach kws X.env)).all (·.1.isSome) = true := by rfl) (hks : (backToKw pos (keywordEach kws X.env)).filterMap (·.1) = ks := by rfl)
    (hdb : (x == ("__debug__" : Str)) = false := by decide)
    (hpl : ((backTo pos (starEach [] X.env)).any (·.1) || (backToKw pos (keywordEach kws X.env)).any (·.1.isNone)) = false := by rfl) (h1 : ps.length = np := by rfl) (h2 : ks.length = m := by rfl) : DE X E (.Call (.Name x p) [] kws pos) (kwXE nilA fk (kwX np 0 m ix sem)) := by
  subst h1; subst h2
  refine ⟨fun pins s σ H Q I h => ?_⟩
  have h2 : tAr X.K E fk σ H fun zs H2 => zs.length = ks.length ∧ dSpX X.K ps.length sem (pick ix ([] ++ zs)) H2 Q (WE (WofE X.K E) σ) := by
    obtain ⟨ι, env, ms, r, ev, o⟩ := h
    have o' : Out X.K E (Rp X.K) ι H ((fk env ms).bind fun es ms2 => kwX ps.length 0 ks.length ix sem env [] es ms2) Q := o
    refine tR_seq r ev o' fun ι2 H2 ms2 es zs B2 o2 => ?_
    unfold kwX at o2
    by_cases h : ([] : List D).length = 0 ∧ es.length = ks.length ∧ (pick ix ([] ++ es)).length = ps.length
    · rw [if_pos h] at o2
      exact ⟨B2.r.length.trans h.2.1, ι2, ms2, _, B2.rel, pick_rps B2.r ix, h.2.2, out_at B2.env o2⟩
    · rw [if_neg h] at o2; exact o2.elim
  refine wpAny_Call_Name_kw (ld_glob I hg C.g ?_ hdb)
  refine PySem.W.callWith_KW0 (h₀ := X.base) I.ok.mod.kin C.kp hall (thn (hkw.run pos pins s σ H _ I h2) fun ws s2 ⟨zs, H2, I2, rz, l2, q2⟩ => ⟨I2.kIn, ?_⟩) hpl
  rw [hks]
  exact run_fnNS (vs := []) C.ok hr hb.kbn (passAt tk σ) I2 .nil rz rfl l2 q2
theorem c_callKX {np m : Nat} {ks : List Str} {ix : List Nat} {kws : List Keyword} (C : CalX X.prog X.w X.K X.mg X.base k x ps sem) (tk : Takes X (WofE X.K E)) (hr : Room k X.A) (hb : KwB X.K C.fd ps n ks ix)
    (ha : DA X E (e :: es) fs) (hkw : DK X E kws fk) (hg : Gl X x := by rfl) (hall : (backToKw pos (keywordEach kws X.env)).all (·.1.isSome) = true := by rfl) (hks : (backToKw pos (keywordEach kws X.env)).filterMap (·.1) = ks := by rfl)
    (hdb : (x == ("__debug__" : Str)) = false := by decide) (he : starEach (e :: es) X.env = (false, eval e X.env) :: starEach es X.env := by rfl)
    (hpl : ((backTo pos (starEach (e :: es) X.env)).any (·.1) || (backToKw pos (keywordEach kws X.env)).any (·.1.isNone)) = false := by rfl) (h1 : ps.length = np := by rfl) (h2 : ks.length = m := by rfl) : DE X E (.Call (.Name x p) (e :: es) kws pos) (kwXE fs fk (kwX np n m ix sem)) := by
  subst h1; subst h2
  refine ⟨fun pins s σ H Q I h => ?_⟩
  have h2 : tAr X.K E fs σ H fun vs H1 => tAr X.K E fk σ H1 fun zs H2 => vs.length = n ∧ zs.length = ks.length ∧ dSpX X.K ps.length sem (pick ix (vs ++ zs)) H2 Q (WE (WofE X.K E) σ) := by
    obtain ⟨ι, env, ms, r, ev, o⟩ := h
    refine tR_seq r ev o fun ι1 H1 ms1 ds vs B1 o1 => ?_
    refine tR_seq B1.rel B1.env o1 fun ι2 H2 ms2 es zs B2 o2 => ?_
    unfold kwX at o2
    by_cases h : ds.length = n ∧ es.length = ks.length ∧ (pick ix (ds ++ es)).length = ps.length
    · rw [if_pos h] at o2
      have r1 := Rps.mono B2.le _ _ B1.r
      exact ⟨r1.length.trans h.1, B2.r.length.trans h.2.1, ι2, ms2, _, B2.rel, pick_rps (r1.append B2.r) ix, h.2.2, out_at B2.env o2⟩
    · rw [if_neg h] at o2; exact o2.elim
  refine wpAny_Call_Name_kw (ld_glob I hg C.g ?_ hdb)
  refine PySem.W.callWith_KW (h₀ := X.base) I.ok.mod.kin C.kp hall (thn (ha.run pos pins s σ H _ I h2) fun us s1 ⟨vs, H1, I1, r, q⟩ => ?_) hpl he
  refine thn (hkw.run pos pins s1 σ H1 _ I1 q) fun ws s2 ⟨zs, H2, I2, rz, l1, l2, q2⟩ => ⟨I2.kIn, ?_⟩
  rw [hks]
  exact run_fnNS C.ok hr hb.kbn (passAt tk σ) I2 r rz l1 l2 q2
/-! raise -/
/-- an own exception class that is made without a field -/
structure XC (K : PySem.W.Frag) (mg : Str → Option Value) (c : Str) where
  C : Addr
  g0 : PySem.W.nsIn K mainGlobals c = some (some (.ref C))
  made : ∀ (X : Cx), X.K = K → X.mg = mg → ∀ {e : Expr} {es : List Expr} {t : TA} {p pos : Pos}, Gl X c → PA X (e :: es) t → (c == ("__debug__" : Str)) = false → starEach (e :: es) X.env = (false, eval e X.env) :: starEach es X.env → (backTo pos (starEach es X.env)).any (·.1) = false →
    PMk X (.Call (.Name c p) (e :: es) [] pos) (fun σ H Q => t σ H fun vs H1 => vs.length ≤ sizeLine ∧ Q (.ref C) none H1)
/-- .. over a built-in class that has its own __new__ -/
def XC.own {K : PySem.W.Frag} {mg : Str → Option Value} {c : Str} {C : Addr} {bn newId initId : String} {bmB : List Value} (F : ExcBaseFacts bn newId initId bmB) (q : PySem.W.excIn K C bmB newId = true) (g0 : PySem.W.nsIn K mainGlobals c = some (some (.ref C))) (g : mg c = some (.ref C))
    (kp : PySem.W.keepIn K (.ref C) = true) (sub : PySem.W.subIn K (.ref C) (.type "BaseException") = some true) (ty : PySem.W.typeIn K (.ref C) = some (.type "type")) : XC K mg c :=
  ⟨C, g0, fun X hK hm e es t p pos hg ha hdb he hpl => by subst hK; subst hm; exact pmk_ownA F q g kp (raises_own sub ty) hg ha hdb he hpl⟩
@[simp] def raiseS (c : Str) (fs : Env → MS → Res (List D)) : SF := fun env ms => (fs env ms).bind fun ds ms1 => if ds.length ≤ LIM then .exc ⟨c, none, env⟩ ms1 else .bad
theorem s_raise {c : Str} {pos' : Pos} (T : XC X.K X.mg c) (tk : Takes X (WofE X.K E)) (ha : DA X E (e :: es) fs) (hc : X.calm = true := by rfl) (hg : Gl X c := by rfl) (hdb : (c == ("__debug__" : Str)) = false := by decide)
    (he : starEach (e :: es) X.env = (false, eval e X.env) :: starEach es X.env := by rfl) (hpl : (backTo pos (starEach es X.env)).any (·.1) = false := by rfl) : DS X E (.Raise (some (.Call (.Name c p) (e :: es) [] pos)) none pos') (raiseS c fs) :=
  PS.conv (ps_raise hc tk (T.made X rfl rfl hg ha hdb he hpl)) fun σ H D ⟨ι, env, ms, r, ev, o⟩ => tR_seqS r ev o fun ι1 H1 ms1 ds vs B o1 => by
    by_cases h : ds.length ≤ LIM
    · rw [if_pos h] at o1
      exact ⟨by rw [B.r.length, ← lim_eq]; exact h, ⟨c, none, env⟩, ι1, ⟨rfl, T.C, rfl, T.g0⟩, B.env, o1 ι1 H1 B.rel .refl⟩
    · rw [if_neg h] at o1; exact o1.elim
theorem exm_mk {K : PySem.W.Frag} {C C' : Addr} {b : Bool} (h1 : PySem.W.subIn K (.ref C') (.type "BaseException") = some true) (h2 : PySem.W.isClsIn K C' = true) (h3 : PySem.W.typeIn K (.ref C') = some (.type "type")) (h4 : PySem.W.subIn K (.ref C) (.ref C') = some b) : PySem.W.exmOne K (.ref C) (.ref C') = some b := by
  have h2' : (PySem.W.clsIn K C').isSome = true := h2
  unfold PySem.W.exmOne PySem.W.kitCls
  simp only [h1, h2', h3, h4, beq_self_eq_true, Bool.and_self, if_true]
/-! try, one clause -/
/-- a class that is caught; classes that it does not catch -/
structure TC (K : PySem.W.Frag) (mg : Str → Option Value) (c : Str) (L : List Str) where
  C : Addr
  g0 : PySem.W.nsIn K mainGlobals c = some (some (.ref C))
  g : mg c = some (.ref C)
  yes : PySem.W.exmOne K (.ref C) (.ref C) = some true
  no : ∀ c', c' ∈ L → ∃ C', PySem.W.nsIn K mainGlobals c' = some (some (.ref C')) ∧ PySem.W.exmOne K (.ref C') (.ref C) = some false
@[simp] def tryS (c : Str) (L : List Str) (B Hd : SF) : SF := fun env ms => match B env ms with
  | .exc x ms1 => if x.c = c then noExc (Hd x.env ms1) else if x.c ∈ L then .exc x ms1 else .bad
  | .ok a ms1 => .ok a ms1
  | .bad => .bad
theorem outS_ok {K : PySem.W.Frag} {E E' : EW} {ι : Ct} {H : Hp} {a : SR} {ms : MS} {D : Ends} (o : OutS K E ι H (.ok a ms) D) : OutS K E' ι H (.ok a ms) D := by
  obtain ⟨fl, env⟩ := a
  cases fl <;> exact o
theorem outS_noExc {K : PySem.W.Frag} {E E' : EW} {ι : Ct} {H : Hp} {r : Res SR} {D : Ends} (o : OutS K E ι H (noExc r) D) : OutS K E' ι H r D := by
  cases r with
  | bad => exact o
  | exc x ms => exact o.elim
  | ok a ms => exact outS_ok o
theorem s_try {c : Str} {L : List Str} {body suite : List Stmt} {b₀ : Stmt} {np pos' : Pos} {B Hd : SF} (T : TC X.K X.mg c L) (tk : Takes X (WofE X.K E))
    (hb : ∀ (E' : EW) (pn : List (Addr × Obj)) (xe : Value → Shared → Prop), Takes (X.tr pn xe) (WofE X.K E') → DSs (X.tr pn xe) E' body B)
    (hsu : ∀ (a : Addr) (oe : Obj) (pn : List (Addr × Obj)), DSs (X.suite a ((a, oe) :: pn)) E00 (b₀ :: suite) Hd)
    (hg : Gl X c := by rfl) (hdb : (c == ("__debug__" : Str)) = false := by decide) (hs : X.stack = X.env :: X.outer := by rfl) (hf : X.env.frame = some X.env.locals := by rfl) :
    DS X E (.Try body [.ExceptHandler (some (.Name c np)) none (b₀ :: suite) pos'] [] [] pos) (tryS c L B Hd) :=
  PS.conv (ps_try_only (c := .ref T.C) (tb := fun W => tS X.K (EofW X.K W) B) (ts := fun _ _ _ => tS X.K E00 Hd) (Wout := WofE X.K E) hs hf ⟨hg, hdb, .inl T.g⟩ tk
    (fun W pn xe t _ => hb _ pn xe (takes_E t)) (fun a oe cls d pn _ _ => hsu a oe pn)) fun σ H D ⟨ι, env, ms, r, ev, o⟩ => ⟨ι, env, ms, r, ev, by
      unfold tryS at o
      cases q : B env ms with
      | bad => simp only [q] at o; exact o
      | ok a ms1 => simp only [q] at o; exact outS_ok o
      | exc x ms1 =>
        simp only [q] at o
        intro ι' H' R' l' σ' cls d ev' hc
        obtain ⟨hd, C', rfl, hC'⟩ := id hc
        by_cases h : x.c = c
        · rw [if_pos h] at o
          have hC : C' = T.C := by
            rw [h, T.g0] at hC'
            cases hC'; rfl
          subst hC
          exact ⟨true, T.yes, fun _ a na => ⟨ι', x.env, ms1, R', ev', OutS.from l' (outS_noExc o)⟩, fun z => Bool.noConfusion z⟩
        · rw [if_neg h] at o
          by_cases h2 : x.c ∈ L
          · rw [if_pos h2] at o
            obtain ⟨C2, e1, e2⟩ := T.no _ h2
            rw [e1] at hC'
            cases hC'
            exact ⟨false, e2, (fun z => Bool.noConfusion z), fun _ => ⟨x, ι', hc, ev', o ι' H' R' l'⟩⟩
          · rw [if_neg h2] at o; exact o.elim⟩
end
end DL

set_option maxHeartbeats 1000000
namespace DL
open PySem PySem.Spec L2
open PyProof.Rows hiding St

/-! ### int(..) of a text too; str(..) of an int, of a text -/
@[simp] def intTP (ds : List D) (ms : MS) : Res D := match ds with
  | [.int i] => .ok (.int i) ms
  | [.bl k] => .ok (.int (if k then 1 else 0)) ms
  | [.str x] => match PySem.intText? x with
    | some n => if x.length ≤ 640 then .ok (.int n) ms else .bad
    | none => .bad
  | _ => .bad
@[simp] def strP (ds : List D) (ms : MS) : Res D := match ds with
  | [.int i] => if i.natAbs.log2 < 1920 then .ok (.str (Str.ofString (toString i))) ms else .bad
  | [.str x] => .ok (.str x) ms
  | _ => .bad
section
variable {K : PySem.W.Frag} {E : EW}
theorem p_toIntT : PC1 K E (fun xs H Q => ((∃ i, xs = [.int i] ∧ Q (.int i) H) ∨ ∃ k, xs = [.bl k] ∧ Q (.int (if k then 1 else 0)) H) ∨ ∃ a n, xs = [.str a] ∧ PySem.intText? a = some n ∧ a.length ≤ 640 ∧ Q (.int n) H) intTP := by
  intro ι H ms ds vs Q R r o
  match ds, r, o with
  | [.int i], r, o => obtain ⟨v, rfl, h⟩ := r.one; exact .inl (.inl ⟨i, by rw [show v = V.int i from h], o _ ι H R .refl rfl⟩)
  | [.bl k], r, o => obtain ⟨v, rfl, h⟩ := r.one; exact .inl (.inr ⟨k, by rw [show v = V.bl k from h], o _ ι H R .refl rfl⟩)
  | [.str x], r, o =>
    obtain ⟨v, rfl, h⟩ := r.one
    unfold intTP at o
    cases e : PySem.intText? x with
    | none => simp only [e] at o; exact o.elim
    | some n =>
      simp only [e] at o
      by_cases hl : x.length ≤ 640
      · rw [if_pos hl] at o
        exact .inr ⟨x, n, by rw [show v = V.str x from h], e, hl, o _ ι H R .refl rfl⟩
      · rw [if_neg hl] at o; exact o.elim
  | [.non], _, o => exact o.elim
  | [.tup _], _, o => exact o.elim
  | [.lst _], _, o => exact o.elim
  | [.ro _], _, o => exact o.elim
  | [.ptr _], _, o => exact o.elim
  | [], _, o => exact o.elim
  | _ :: _ :: _, _, o => unfold intTP at o; split at o <;> first | exact o.elim | (rename_i e; cases e)
theorem p_toStr : PC1 K E (fun xs H Q => (∃ i, xs = [.int i] ∧ i.natAbs.log2 < 1920 ∧ Q (.str (toString i)) H) ∨ ∃ a, xs = [.str a] ∧ Q (.str a) H) strP := by
  intro ι H ms ds vs Q R r o
  match ds, r, o with
  | [.int i], r, o =>
    obtain ⟨v, rfl, h⟩ := r.one
    unfold strP at o
    by_cases hl : i.natAbs.log2 < 1920
    · simp only [if_pos hl] at o
      exact .inl ⟨i, by rw [show v = V.int i from h], hl, o _ ι H R .refl rfl⟩
    · simp only [if_neg hl] at o; exact o.elim
  | [.str x], r, o => obtain ⟨v, rfl, h⟩ := r.one; exact .inr ⟨x, by rw [show v = V.str x from h], o _ ι H R .refl rfl⟩
  | [.bl _], _, o => exact o.elim
  | [.non], _, o => exact o.elim
  | [.tup _], _, o => exact o.elim
  | [.lst _], _, o => exact o.elim
  | [.ro _], _, o => exact o.elim
  | [.ptr _], _, o => exact o.elim
  | [], _, o => exact o.elim
  | _ :: _ :: _, _, o => unfold strP at o; split at o <;> first | exact o.elim | (rename_i e; cases e)
variable {X : Cx}
/-! a text, so many times -/
@[simp] def mulSD : D → D → MS → Res D
  | .str a, .int n, ms => if 0 ≤ n ∧ n ≤ 1000 ∧ a.length ≤ 1000 then .ok (.str (Txt.mul a n)) ms else .bad
  | _, _, _ => .bad
theorem mulOk_of {a : Str} {n : Int} (h : 0 ≤ n ∧ n ≤ 1000 ∧ a.length ≤ 1000) : MulOk a n := by
  obtain ⟨h1, h2, h3⟩ := h
  refine ⟨?_, fun h _ => ?_, fun h _ => ?_⟩
  · rw [decide_eq_false (by omega), decide_eq_false (by omega)]; rfl
  · have : (1000 : Int) ≤ (2 ^ 63 - 1) / n := Int.le_ediv_of_mul_le (by omega) (by omega)
    omega
  · have h4 : a.length * n.toNat ≤ 1000 * 1000 := Nat.mul_le_mul h3 (by omega)
    show PySem.Builtin.Str.tooLong _ = false
    unfold PySem.Builtin.Str.tooLong
    first
      | exact decide_eq_false (by rw [sizeLine_eq]; omega)
      | exact decide_eq_false (by omega)
      | (simp; rw [sizeLine_eq]; omega)
theorem op_mul_str : OpR X (binaryOp .Mult) (fun x y H Q => ∃ a n, x = .str a ∧ y = .int n ∧ MulOk a n ∧ Q (.str (Txt.mul a n)) H) := by
  intro pins s σ H x y v u Q I rx ry h
  obtain ⟨a, n, rfl, rfl, hz, q⟩ := h
  obtain ⟨t, rfl⟩ := rx
  obtain ⟨t', rfl⟩ := ry
  exact SB.mul hz fun t' k => ⟨.str (Txt.mul a n), H, I.tok _, ⟨_, rfl⟩, q⟩
theorem p_mulS : P2 K E (fun x y H Q => ∃ a n, x = .str a ∧ y = .int n ∧ MulOk a n ∧ Q (.str (Txt.mul a n)) H) mulSD := by
  intro ι H ms a b x y Q R ra rb o
  cases a with
  | str a =>
    cases b with
    | int n =>
      have o' : Out K E (Rp K) ι H (if 0 ≤ n ∧ n ≤ 1000 ∧ a.length ≤ 1000 then .ok (.str (Txt.mul a n)) ms else .bad) Q := o
      by_cases h : 0 ≤ n ∧ n ≤ 1000 ∧ a.length ≤ 1000
      · rw [if_pos h] at o'
        exact ⟨a, n, ra, rb, mulOk_of h, o' _ ι H R .refl rfl⟩
      · rw [if_neg h] at o'; exact o'.elim
    | _ => exact o.elim
  | _ => exact o.elim
variable {a b : Expr} {f g : Env → MS → Res D} {pos : Pos}
theorem d_mulS (ha : DE X E a f) (hb : DE X E b g) : DE X E (.BinOp a .Mult b pos) (binE f g mulSD) := d_op op_mul_str p_mulS ha hb
end
end DL

set_option maxHeartbeats 1000000
namespace DL
open PySem PySem.Spec L2
open PyProof.Rows hiding St

/-! ### == of plain data: the same data -/
mutual
/-- without places, of texts that may be, at most so deep -/
def okD : Nat → D → Bool
  | _, .non => true
  | _, .bl _ => true
  | _, .int _ => true
  | _, .str x => PyData.strOk x
  | 0, .tup _ => false
  | k + 1, .tup ds => okDs k ds
  | 0, .lst _ => false
  | k + 1, .lst ds => okDs k ds
  | 0, .ro _ => false
  | k + 1, .ro ds => okDs k ds
  | _, .ptr _ => false
def okDs : Nat → List D → Bool
  | _, [] => true
  | k, d :: ds => okD k d && okDs k ds
end
mutual
/-- without truths -/
def noB : D → Bool
  | .bl _ => false
  | .ro _ => false
  | .ptr _ => false
  | .tup ds => noBs ds
  | .lst ds => noBs ds
  | _ => true
def noBs : List D → Bool
  | [] => true
  | d :: ds => noB d && noBs ds
end
mutual
theorem py_of : ∀ (d : D) (k : Nat), okD k d = true → ∃ q, pyD d = some q ∧ PyData.canLay0 q = true ∧ PyData.depth q ≤ k
  | .non, k, _ => ⟨.none, rfl, rfl, Nat.zero_le _⟩
  | .bl b, k, _ => ⟨.bool b, rfl, rfl, Nat.zero_le _⟩
  | .int i, k, _ => ⟨.int i, rfl, rfl, Nat.zero_le _⟩
  | .str x, k, h => ⟨.str x, rfl, (by cases k <;> exact h), Nat.zero_le _⟩
  | .tup ds, 0, h => by cases h
  | .tup ds, k + 1, h => by
    obtain ⟨ps, e, h1, h2⟩ := pys_of ds k h
    exact ⟨.tuple ps, (by show (pyDs ds).map PyData.tuple = _; rw [e]; rfl), h1, (by show PyData.depthAll ps + 1 ≤ k + 1; omega)⟩
  | .lst ds, 0, h => by cases h
  | .lst ds, k + 1, h => by
    obtain ⟨ps, e, h1, h2⟩ := pys_of ds k h
    exact ⟨.list ps, (by show (pyDs ds).map PyData.list = _; rw [e]; rfl), h1, (by show PyData.depthAll ps + 1 ≤ k + 1; omega)⟩
  | .ro ds, 0, h => by cases h
  | .ro ds, k + 1, h => by
    obtain ⟨ps, e, h1, h2⟩ := pys_of ds k h
    exact ⟨.list ps, (by show (pyDs ds).map PyData.list = _; rw [e]; rfl), h1, (by show PyData.depthAll ps + 1 ≤ k + 1; omega)⟩
  | .ptr n, k, h => by cases k <;> cases h
theorem pys_of : ∀ (ds : List D) (k : Nat), okDs k ds = true → ∃ qs, pyDs ds = some qs ∧ PyData.canLayAll0 qs = true ∧ PyData.depthAll qs ≤ k
  | [], k, _ => ⟨[], rfl, rfl, Nat.zero_le _⟩
  | d :: ds, k, h => by
    have h' : (okD k d && okDs k ds) = true := h
    rw [Bool.and_eq_true] at h'
    obtain ⟨q, e, h1, h2⟩ := py_of d k h'.1
    obtain ⟨qs, es, g1, g2⟩ := pys_of ds k h'.2
    refine ⟨q :: qs, ?_, ?_, ?_⟩
    · unfold pyDs; rw [e, es]
    · show (PyData.canLay0 q && PyData.canLayAll0 qs) = true
      rw [h1, g1]; rfl
    · show max (PyData.depth q) (PyData.depthAll qs) ≤ k
      omega
end
mutual
theorem eqv_self : ∀ (d : D) (p : PyData), pyD d = some p → PyData.eqv p p = true
  | .non, _, h => by cases h; rfl
  | .bl b, _, h => by cases h; exact beq_self_eq_true b
  | .int i, _, h => by cases h; exact beq_self_eq_true i
  | .str x, _, h => by cases h; exact beq_self_eq_true x
  | .tup ds, p, h => by
    have h' : (pyDs ds).map PyData.tuple = some p := h
    cases e : pyDs ds with
    | none => rw [e] at h'; cases h'
    | some ps => rw [e] at h'; cases h'; exact eqvs_self ds ps e
  | .lst ds, p, h => by
    have h' : (pyDs ds).map PyData.list = some p := h
    cases e : pyDs ds with
    | none => rw [e] at h'; cases h'
    | some ps => rw [e] at h'; cases h'; exact eqvs_self ds ps e
  | .ro ds, p, h => by
    have h' : (pyDs ds).map PyData.list = some p := h
    cases e : pyDs ds with
    | none => rw [e] at h'; cases h'
    | some ps => rw [e] at h'; cases h'; exact eqvs_self ds ps e
  | .ptr n, _, h => by cases h
theorem eqvs_self : ∀ (ds : List D) (ps : List PyData), pyDs ds = some ps → PyData.eqvAll ps ps = true
  | [], _, h => by cases h; rfl
  | d :: ds, ps, h => by
    unfold pyDs at h
    cases e : pyD d with
    | none => rw [e] at h; cases h
    | some q =>
      cases es : pyDs ds with
      | none => rw [e, es] at h; cases h
      | some qs =>
        rw [e, es] at h
        cases h
        show (PyData.eqv q q && PyData.eqvAll qs qs) = true
        rw [eqv_self d q e, eqvs_self ds qs es]; rfl
end
mutual
theorem eqv_same : ∀ (d e : D) (p q : PyData), noB d = true → noB e = true → pyD d = some p → pyD e = some q → PyData.eqv p q = true → d = e
  | .bl b, _, _, _, n, _, _, _, _ => by cases n
  | .ro b, _, _, _, n, _, _, _, _ => by cases n
  | .ptr b, _, _, _, n, _, _, _, _ => by cases n
  | .non, e, p, q, _, n, h, h', v => by
    cases h
    cases e with
    | non => rfl
    | int _ => cases h'; cases v
    | str _ => cases h'; cases v
    | tup ds => (have z : (pyDs ds).map PyData.tuple = some q := h'); cases w : pyDs ds <;> rw [w] at z <;> cases z; cases v
    | lst ds => (have z : (pyDs ds).map PyData.list = some q := h'); cases w : pyDs ds <;> rw [w] at z <;> cases z; cases v
    | _ => cases n
  | .int i, e, p, q, _, n, h, h', v => by
    cases h
    cases e with
    | int j => cases h'; exact congrArg D.int (beq_iff_eq.mp v)
    | non => cases h'; cases v
    | str _ => cases h'; cases v
    | tup ds => (have z : (pyDs ds).map PyData.tuple = some q := h'); cases w : pyDs ds <;> rw [w] at z <;> cases z; cases v
    | lst ds => (have z : (pyDs ds).map PyData.list = some q := h'); cases w : pyDs ds <;> rw [w] at z <;> cases z; cases v
    | _ => cases n
  | .str x, e, p, q, _, n, h, h', v => by
    cases h
    cases e with
    | str y => cases h'; exact congrArg D.str (beq_iff_eq.mp v)
    | non => cases h'; cases v
    | int _ => cases h'; cases v
    | tup ds => (have z : (pyDs ds).map PyData.tuple = some q := h'); cases w : pyDs ds <;> rw [w] at z <;> cases z; cases v
    | lst ds => (have z : (pyDs ds).map PyData.list = some q := h'); cases w : pyDs ds <;> rw [w] at z <;> cases z; cases v
    | _ => cases n
  | .tup ds, e, p, q, m, n, h, h', v => by
    have z : (pyDs ds).map PyData.tuple = some p := h
    cases w : pyDs ds with
    | none => rw [w] at z; cases z
    | some ps =>
      rw [w] at z; cases z
      cases e with
      | tup es =>
        have z' : (pyDs es).map PyData.tuple = some q := h'
        cases w' : pyDs es with
        | none => rw [w'] at z'; cases z'
        | some qs => rw [w'] at z'; cases z'; exact congrArg D.tup (eqvs_same ds es ps qs m n w w' v)
      | lst es =>
        have z' : (pyDs es).map PyData.list = some q := h'
        cases w' : pyDs es <;> rw [w'] at z' <;> cases z'
        cases v
      | non => cases h'; cases v
      | int _ => cases h'; cases v
      | str _ => cases h'; cases v
      | _ => cases n
  | .lst ds, e, p, q, m, n, h, h', v => by
    have z : (pyDs ds).map PyData.list = some p := h
    cases w : pyDs ds with
    | none => rw [w] at z; cases z
    | some ps =>
      rw [w] at z; cases z
      cases e with
      | lst es =>
        have z' : (pyDs es).map PyData.list = some q := h'
        cases w' : pyDs es with
        | none => rw [w'] at z'; cases z'
        | some qs => rw [w'] at z'; cases z'; exact congrArg D.lst (eqvs_same ds es ps qs m n w w' v)
      | tup es =>
        have z' : (pyDs es).map PyData.tuple = some q := h'
        cases w' : pyDs es <;> rw [w'] at z' <;> cases z'
        cases v
      | non => cases h'; cases v
      | int _ => cases h'; cases v
      | str _ => cases h'; cases v
      | _ => cases n
theorem eqvs_same : ∀ (ds es : List D) (ps qs : List PyData), noBs ds = true → noBs es = true → pyDs ds = some ps → pyDs es = some qs → PyData.eqvAll ps qs = true → ds = es
  | [], [], _, _, _, _, _, _, _ => rfl
  | [], e :: es, ps, qs, _, _, h, h', v => by
    cases h
    unfold pyDs at h'
    cases w : pyD e <;> cases w' : pyDs es <;> rw [w, w'] at h' <;> cases h'
    cases v
  | d :: ds, [], ps, qs, _, _, h, h', v => by
    cases h'
    unfold pyDs at h
    cases w : pyD d <;> cases w' : pyDs ds <;> rw [w, w'] at h <;> cases h
    cases v
  | d :: ds, e :: es, ps, qs, m, n, h, h', v => by
    unfold pyDs at h h'
    have m' : (noB d && noBs ds) = true := m
    have n' : (noB e && noBs es) = true := n
    rw [Bool.and_eq_true] at m' n'
    cases w : pyD d with
    | none => rw [w] at h; cases h
    | some p =>
      cases w' : pyDs ds with
      | none => rw [w, w'] at h; cases h
      | some ps' =>
        rw [w, w'] at h; cases h
        cases u : pyD e with
        | none => rw [u] at h'; cases h'
        | some q =>
          cases u' : pyDs es with
          | none => rw [u, u'] at h'; cases h'
          | some qs' =>
            rw [u, u'] at h'; cases h'
            have v' : (PyData.eqv p q && PyData.eqvAll ps' qs') = true := v
            rw [Bool.and_eq_true] at v'
            rw [eqv_same d e p q m'.1 n'.1 w u v'.1, eqvs_same ds es ps' qs' m'.2 n'.2 w' u' v'.2]
end
theorem toPy_pyD {ms : MS} {d : D} {q : PyData} (h : pyD d = some q) : toPy ms d = some q := by
  cases d with
  | ptr n => cases h
  | _ => exact h
/-- what is compared: data, or the list that stands in a cell -/
def rdD (ms : MS) : D → D
  | .ptr n => match ms[n]? with
    | some (.lst ds) => .lst ds
    | _ => .ptr n
  | d => d
theorem toPy_rd (ms : MS) (d : D) : toPy ms d = pyD (rdD ms d) := by
  cases d with
  | ptr n =>
    cases e : ms[n]? with
    | none => simp only [toPy, rdD, e]; rfl
    | some c => cases c <;> (simp only [toPy, rdD, e]; rfl)
  | _ => rfl
theorem eqG_self {a b : D} {ms : MS} {k : Nat} (hab : rdD ms a = rdD ms b) (h : okD k (rdD ms a) = true) (hk : k ≤ 64) : eqG a b ms = .ok (.bl true) ms ∧ neG a b ms = .ok (.bl false) ms := by
  obtain ⟨q, e, h1, h2⟩ := py_of _ _ h
  unfold eqG neG
  rw [toPy_rd, toPy_rd, ← hab, e]
  have s : SeqAt.shaped q = true := by
    unfold SeqAt.shaped
    rw [h1, Bool.true_and]
    exact decide_eq_true (by omega)
  simp only [s, Bool.and_self, if_true, eqv_self _ _ e, Bool.not_true, and_self]
theorem eqG_ne {a b : D} {ms : MS} {k : Nat} (hab : rdD ms a ≠ rdD ms b) (h : okD k (rdD ms a) = true) (h' : okD k (rdD ms b) = true) (n : noB (rdD ms a) = true) (n' : noB (rdD ms b) = true) (hk : k ≤ 64) : eqG a b ms = .ok (.bl false) ms ∧ neG a b ms = .ok (.bl true) ms := by
  obtain ⟨q, e, h1, h2⟩ := py_of _ _ h
  obtain ⟨q', e', h1', h2'⟩ := py_of _ _ h'
  unfold eqG neG
  rw [toPy_rd, toPy_rd, e, e']
  have s : SeqAt.shaped q = true := by
    unfold SeqAt.shaped
    rw [h1, Bool.true_and]
    exact decide_eq_true (by omega)
  have s' : SeqAt.shaped q' = true := by
    unfold SeqAt.shaped
    rw [h1', Bool.true_and]
    exact decide_eq_true (by omega)
  have v : PyData.eqv q q' = false := by
    cases v : PyData.eqv q q' with
    | false => rfl
    | true => exact absurd (eqv_same _ _ _ _ n n' e e' v) hab
  simp only [s, s', Bool.and_self, if_true, v, Bool.not_false, and_self]
/-- a list and the empty one -/
theorem eqG_nil {a : D} {ds : List D} {ms : MS} {k : Nat} (ha : rdD ms a = .lst ds) (h : okDs k ds = true) (hk : k ≤ 63) : eqG a (.lst []) ms = .ok (.bl ds.isEmpty) ms ∧ neG a (.lst []) ms = .ok (.bl (!ds.isEmpty)) ms := by
  obtain ⟨qs, e, h1, h2⟩ := pys_of _ _ h
  have e1 : pyD (.lst ds) = some (.list qs) := by show (pyDs ds).map PyData.list = _; rw [e]; rfl
  unfold eqG neG
  rw [toPy_rd, ha, e1, show toPy ms (.lst []) = some (.list []) from rfl]
  have s : SeqAt.shaped (.list qs) = true := by
    unfold SeqAt.shaped
    rw [show PyData.canLay0 (.list qs) = PyData.canLayAll0 qs from rfl, h1, Bool.true_and]
    exact decide_eq_true (by show PyData.depthAll qs + 1 ≤ 64; omega)
  have s' : SeqAt.shaped (.list []) = true := by decide +kernel
  simp only [s, s', Bool.and_self, if_true]
  cases ds with
  | nil => cases e; exact ⟨rfl, rfl⟩
  | cons d ds =>
    unfold pyDs at e
    cases w : pyD d <;> cases w' : pyDs ds <;> rw [w, w'] at e <;> cases e
    exact ⟨rfl, rfl⟩
theorem okDs_iff {k : Nat} {ds : List D} : okDs k ds = true ↔ ∀ d ∈ ds, okD k d = true := by
  induction ds with
  | nil => exact ⟨(fun _ _ h => nomatch h), fun _ => rfl⟩
  | cons d ds ih =>
    show (okD k d && okDs k ds) = true ↔ _
    rw [Bool.and_eq_true, ih]
    simp
theorem noBs_iff {ds : List D} : noBs ds = true ↔ ∀ d ∈ ds, noB d = true := by
  induction ds with
  | nil => exact ⟨(fun _ _ h => nomatch h), fun _ => rfl⟩
  | cons d ds ih =>
    show (noB d && noBs ds) = true ↔ _
    rw [Bool.and_eq_true, ih]
    simp
end DL

set_option maxHeartbeats 1000000
namespace DL
open PySem PySem.Spec L2
open PyProof.Rows hiding St

/-! ### {k: v for .. in ..}: the dict is a cell from the start -/
def dcLoop (nx : Nat → MS → WOut) (step : D → MS → Res (Option (D × D))) (c : Nat) : Nat → Nat → MS → Res Unit
  | 0, _, _ => .bad
  | n + 1, i, ms => match nx i ms with
    | .bad => .bad
    | .stop => .ok () ms
    | .item d => (step d ms).bind fun o ms1 => match o with
      | none => dcLoop nx step c n (i + 1) ms1
      | some (y, z) => match keyOf y, cellK ms1 (.ptr c) with
        | some k, some (_, fs) => if fs.length < LIM then dcLoop nx step c n (i + 1) (ms1.set c (.dK (putD fs k z))) else .bad
        | _, _ => .bad
@[simp] def stepOfD (T : TF) (t : Env → MS → Res Bool) (fk fv : Env → MS → Res D) (env : Env) : D → MS → Res (Option (D × D)) := fun d ms =>
  noExc ((T d env ms).bind fun env1 ms1 => (t env1 ms1).bind fun b ms2 => if b = true then (fk env1 ms2).bind fun y ms3 => (fv env1 ms3).bind fun z ms4 => .ok (some (y, z)) ms4 else .ok none ms2)
@[simp] def dcompE (g : Env → MS → Res Src) (T : TF) (t : Env → MS → Res Bool) (fk fv : Env → MS → Res D) (vs : List Nat) (env : Env) (ms : MS) : Res D :=
  (g env ms).bind fun s ms1 => (noExc (dcLoop s.nx (stepOfD T t fk fv (wipeE env vs)) ms1.length s.n 0 (ms1 ++ [.dK []]))).bind fun _ ms2 => .ok (.ptr ms1.length) ms2
theorem dcomp_read {K : PySem.W.Frag} {E : EW} {g : Env → MS → Res Src} {gg : TG} {T : TF} {t : Env → MS → Res Bool} {fk fv : Env → MS → Res D} {vs : List Nat} (tk : TOk K E00 vs gg T)
    {σ : St} {H : Hp} {Q : VK} (h : tD K E (dcompE g T t fk fv vs) σ H Q) : tDc (tI K E g) gg (tT K E00 t) (tD K E00 fk) (tD K E00 fv) vs σ H Q := by
  obtain ⟨ι, env, ms, r, ev, o⟩ := h
  refine ⟨ι, env, ms, r, ev, ?_⟩
  unfold dcompE at o
  cases q : g env ms with
  | bad => rw [q] at o; exact o
  | exc x ms1 => rw [q] at o; exact o
  | ok s ms1 =>
    simp only [q, bind_ok] at o
    intro J ι1 H1 us R1 l1 rs jok D0 h0
    have o := Out.from l1 o
    have ln := Le.newM (o := .dK []) R1 h0
    have hat : (ι1.push D0).a[ms1.length]? = some D0 := by
      show (ι1.a ++ [D0])[ms1.length]? = some D0
      rw [← R1.len, List.getElem?_append_right (Nat.le_refl _)]
      simp
    refine ⟨fun i m H2 => ∃ ι2 ms2, Rel K ι2 H2 ms2 ∧ EnvOk K ι2 H2 env σ ∧ Rps K ι2 H2 s.ds us ∧ ι2.a[ms1.length]? = some D0 ∧ Le ι1 H1 ι2 H2 ∧ Out K E (Rp K) ι1 H1 ((noExc (dcLoop s.nx (stepOfD T t fk fv (wipeE env vs)) ms1.length m i ms2)).bind fun _ ms2 => .ok (.ptr ms1.length) ms2) Q,
      ⟨s.n, ι1.push D0, ms1 ++ [.dK []], R1.newM (c := .dK []) h0 ⟨[], upd_same, rfl, rfl⟩, (ev.mono l1).mono ln, Rps.mono ln _ _ rs, hat, ln, o⟩, ?_⟩
    rintro i m H2 ⟨ι2, ms2, R2, ev2, rs2, hat2, l2, o2⟩
    cases m with
    | zero => exact o2.elim
    | succ m =>
      have js := jok ι2 H2 ms2 i R2 rs2
      unfold dcLoop at o2
      cases w : s.nx i ms2 with
      | bad => simp only [w] at o2; exact o2.elim
      | stop =>
        simp only [w] at o2
        rw [w] at js
        exact .inl ⟨js, o2 (.ref D0) ι2 H2 R2 l2 ⟨D0, rfl, hat2⟩⟩
      | item d =>
        simp only [w] at o2
        rw [w] at js
        refine .inr ⟨js.1, fun H2 => ∃ ι2 ms2, Rel K ι2 H2 ms2 ∧ EnvOk K ι2 H2 env σ ∧ Rps K ι2 H2 s.ds us ∧ ι2.a[ms1.length]? = some D0 ∧ Le ι1 H1 ι2 H2 ∧ Out K E (Rp K) ι1 H1 ((noExc (dcLoop s.nx (stepOfD T t fk fv (wipeE env vs)) ms1.length m (i + 1) ms2)).bind fun _ ms2 => .ok (.ptr ms1.length) ms2) Q,
          fun H' h => ⟨m, Nat.lt_succ_self m, h⟩, fun x H' hy => ?_⟩
        obtain ⟨R3, l3, rd⟩ := js.2 x H' hy
        unfold stepOfD at o2
        refine tk x (L2.wipe σ vs) σ H' _ wipe_wipe ⟨ι2, wipeE env vs, ms2, d, R3, (ev2.wipe vs).mono l3, rd, ?_⟩
        cases q3 : T d (wipeE env vs) ms2 with
        | bad => simp only [q3] at o2; exact o2.elim
        | exc x ms3 => simp only [q3] at o2; exact o2.elim
        | ok env3 ms3 =>
          simp only [q3, bind_ok] at o2
          intro σ3 ι3 H3 R3' l3' ev3
          refine ⟨ι3, env3, ms3, R3', ev3, ?_⟩
          cases q4 : t env3 ms3 with
          | bad => simp only [q4] at o2; exact o2.elim
          | exc x ms4 => simp only [q4] at o2; exact o2.elim
          | ok b ms4 =>
            simp only [q4, bind_ok] at o2
            intro b' ι4 H4 R4 l4 eb
            obtain rfl : b' = b := eb
            have l24 := (l3.trans l3').trans l4
            cases b' with
            | false =>
              simp only [Bool.false_eq_true, if_false] at o2 ⊢
              exact ⟨ι4, ms4, R4, ev2.mono l24, Rps.mono l24 _ _ rs2, l24.at hat2, l2.trans l24, o2⟩
            | true =>
              simp only [if_true] at o2 ⊢
              refine ⟨ι4, env3, ms4, R4, ev3.mono l4, ?_⟩
              cases q5 : fk env3 ms4 with
              | bad => simp only [q5] at o2; exact o2.elim
              | exc x ms5 => simp only [q5] at o2; exact o2.elim
              | ok y ms5 =>
                simp only [q5, bind_ok] at o2
                intro yv ι5 H5 R5 l5 ry
                refine ⟨ι5, env3, ms5, R5, (ev3.mono l4).mono l5, ?_⟩
                cases q6 : fv env3 ms5 with
                | bad => simp only [q6] at o2; exact o2.elim
                | exc x ms6 => simp only [q6] at o2; exact o2.elim
                | ok z ms6 =>
                  simp only [q6, bind_ok, noExc] at o2
                  intro zv ι6 H6 R6 l6 rz
                  have l26 := (l24.trans l5).trans l6
                  have hat6 := l26.at hat2
                  cases q7 : keyOf y with
                  | none => simp only [q7] at o2; exact o2.elim
                  | some k =>
                    cases q8 : cellK ms6 (.ptr ms1.length) with
                    | none => simp only [q7, q8] at o2; exact o2.elim
                    | some nf =>
                      obtain ⟨n, fs⟩ := nf
                      simp only [q7, q8] at o2
                      obtain ⟨p, kvs, ep, hn, hp, kd⟩ := R6.cellK q8 (v := .ref D0) ⟨D0, rfl, hat6⟩
                      cases ep
                      obtain rfl : n = ms1.length := nd_ix R6.nd hn hat6
                      have ek := key_v q7 (Rp.mono l6 _ _ ry)
                      subst ek
                      by_cases hl : fs.length < LIM
                      · rw [if_pos hl] at o2
                        have lw := Le.write (o := .dK (putK kvs k zv)) R6 hn
                        have h2 := (kd.put (k := k) rz).mono lw
                        exact ⟨kvs, k, rfl, hp, by rw [kd.len, ← lim_eq]; exact hl, ι6, ms6.set ms1.length (.dK (putD fs k z)), R6.write hn ⟨_, upd_same, h2.ks, h2.rs⟩, (ev2.mono l26).mono lw, Rps.mono lw _ _ (Rps.mono l26 _ _ rs2), lw.at hat6, (l2.trans l26).trans lw, o2⟩
                      · rw [if_neg hl] at o2; exact o2.elim
section
variable {X : Cx} {E : EW}
theorem d_dcomp {kx vx tg iter : Expr} {ifs : List Expr} {scope : Scope} {own : List (Str × Nat)} {pos : Pos} {g : Env → MS → Res Src} {gg : TG} {T : TF} {t : Env → MS → Res Bool} {fk fv : Env → MS → Res D}
    (hc : X.calm = true) (hN : X.N.Nodup) (hi : DI X E tg iter g) (ok : BlkOk X.N X.env.scope scope own)
    (hg : ∀ (s : Shared) (H : Hp) (C : Addr) (cl : List (Str × Addr)) (fp : List Addr), PG (X.blk s H scope (compEnvC scope cl C X.env) fp) tg gg) (tk : TOk X.K E00 (own.map (·.2)) gg T)
    (ht : ∀ (s : Shared) (H : Hp) (C : Addr) (cl : List (Str × Addr)) (fp : List Addr), PTs (X.blk s H scope (compEnvC scope cl C X.env) fp) ifs (tT X.K E00 t))
    (hk : ∀ (s : Shared) (H : Hp) (C : Addr) (cl : List (Str × Addr)) (fp : List Addr), PE (X.blk s H scope (compEnvC scope cl C X.env) fp) kx (tD X.K E00 fk))
    (he : ∀ (s : Shared) (H : Hp) (C : Addr) (cl : List (Str × Addr)) (fp : List Addr), PE (X.blk s H scope (compEnvC scope cl C X.env) fp) vx (tD X.K E00 fv)) (hs : ∀ x, foldedSetIterable iter X.env x = pure x := by intro _; rfl) :
    DE X E (.DictComp kx vx [⟨tg, iter, ifs, 0⟩] scope pos) (dcompE g T t fk fv (own.map (·.2))) :=
  PE.conv (pe_dc hc hN hi ok hg ht hk he hs) fun _ _ _ h => dcomp_read tk h
end
end DL

set_option maxHeartbeats 1000000
namespace DL
open PySem PySem.Spec L2
open PyProof.Rows hiding St

/-! ### a, b, .. = a list -/
@[simp] def lstT (n : Nat) (Ts : List D → Env → MS → Res Env) : TF := fun d env ms => match rlOf ms d with
  | some ds => if ds.length = n then Ts ds env ms else .bad
  | none => .bad
section
variable {X : Cx} {E : EW} {es : List Expr} {Ts : List D → Env → MS → Res Env} {pos : Pos}
theorem g_lst {k n : Nat} (hc : X.calm = true) (h : DGs X E es Ts) (hn : (assignEach es X.env).length = n := by rfl) (hst : (assignEach es X.env).findIdx? (·.1) = none := by rfl) : DG X E (.Tuple es k pos) (lstT n Ts) :=
  PG.conv (pg_lst hc h hn hst) fun v σ H Q ⟨ι, env, ms, d, r, ev, rd, o⟩ => by
    unfold lstT at o
    cases q : rlOf ms d with
    | none => simp only [q] at o; exact o.elim
    | some ds =>
      simp only [q] at o
      obtain ⟨p, xs, rfl, rs, hs⟩ := r.rl q rd
      by_cases h : ds.length = n
      · rw [if_pos h] at o
        exact ⟨p, xs, rfl, hs, by rw [rs.length]; exact h, ι, env, ms, ds, r, ev, rs, o⟩
      · rw [if_neg h] at o; exact o.elim
end
end DL

set_option maxHeartbeats 1000000
namespace DL
open PySem PySem.Spec L2
open PyProof.Rows hiding St

/-! ### except clauses with names: the exception is kept as a cell -/
/-- an exception's class among any number of classes -/
theorem exm_list {M : Model} {K : PySem.W.Frag} {h : Heap} {cls : Value} {tp e : Addr} {b : Bool} (cs : List Value) (X : K.In h) (LT : PySem.W.Looks M h (typeOf (.ref e)) cls)
    (hp : h.get? tp = some { cls := .type "tuple", data := .seq cs.toArray }) (hx : PySem.W.exmAny K cls cs = some b) : PySem.W.Looks M h (excMatches (.ref e) (.ref tp)) b := by
  intro A Q E s k q
  obtain ⟨hh, g, d, tk, os⟩ := s
  have tt : PySem.W.Looks M h (isInstance (.ref tp) (.type "tuple")) true :=
    ((PySem.W.Looks.ld hp).andThen .now).andThen (PySem.W.Looks.of_pure isSubtype_tuple_tuple)
  have tt := tt.keeps k
  have LT := LT.keeps k
  have hp' := k _ _ hp
  have each : ∀ (l : List Value) (b : Bool), PySem.W.exmAny K cls l = some b → ∀ c, c ∈ l → ∃ v, PySem.W.exmOne K cls c = some v := by
    intro l
    induction l with
    | nil => intro b h0 c hc; cases hc
    | cons y l ih =>
      intro b h0 c hc
      obtain ⟨b1, d1, h1, h2, h3⟩ := PySem.W.exmAny_cons h0
      rcases List.mem_cons.mp hc with e | hc
      · rw [e]; exact ⟨b1, h1⟩
      · exact ih d1 h2 c hc
  unfold excMatches
  refine wpAny_bind (tt.at ?_)
  dsimp only
  rw [if_pos rfl]
  first
    | refine wpAny_bind (wpAny_seqItems hp' rfl ?_)
    | refine wpAny_bind (wpAny_bind (wpAny_seqItems hp' rfl (wpAny_pure ?_)))
  dsimp only [Option.getD_some, Option.getD]
  refine wpAny_bind (wpAny_pure ?_)
  refine wpAny_bind (wpAny_mono (wpAny_forIn_list _ (fun l _ s' => s' = ⟨hh, g, d, tk, os⟩ ∧ ∀ c, c ∈ l → c ∈ cs) (fun _ s' => s' = ⟨hh, g, d, tk, os⟩) ?_ ?_ _ _ ⟨rfl, fun _ z => z⟩) ?_ (fun _ _ z => z))
  · rintro c l u s' ⟨rfl, hl⟩
    obtain ⟨v, hv⟩ := each cs b hx c (hl c (List.mem_cons_self ..))
    have e1 := ((PySem.W.exm_cls (M := M) X hv).1).keeps k
    refine wpAny_bind (e1.at ?_)
    simp only [Bool.not_true, Bool.false_eq_true, if_false]
    exact wpAny_pure ⟨rfl, fun x hx => hl x (List.mem_cons_of_mem _ hx)⟩
  · rintro u s' ⟨rfl, _⟩; rfl
  rintro u s' rfl
  refine wpAny_bind (LT.at ?_)
  refine wpAny_bind (wpAny_mono (wpAny_forIn_list _ (fun l r s' => s' = ⟨hh, g, d, tk, os⟩ ∧ r.1 = none ∧ PySem.W.exmAny K cls l = some b) (fun r s' => s' = ⟨hh, g, d, tk, os⟩ ∧ ((r.1 = some true ∧ b = true) ∨ (r.1 = none ∧ b = false))) ?_ ?_ _ _ ⟨rfl, rfl, hx⟩) ?_ (fun _ _ z => z))
  · rintro c l r s' ⟨rfl, hr, hl⟩
    obtain ⟨b1, d1, h1, h2, h3⟩ := PySem.W.exmAny_cons hl
    have e2 := ((PySem.W.exm_cls (M := M) X h1).2).keeps k
    refine wpAny_bind (e2.at ?_)
    cases b1 with
    | true =>
      simp only [if_true]
      exact wpAny_pure ⟨rfl, .inl ⟨rfl, by simpa using h3⟩⟩
    | false =>
      simp only [Bool.false_eq_true, if_false]
      refine wpAny_pure ⟨rfl, ?_, ?_⟩
      · first | rfl | exact hr
      · rw [h2, h3]; rfl
  · rintro r s' ⟨rfl, hr, hl⟩
    refine ⟨rfl, .inr ⟨hr, ?_⟩⟩
    have z : some false = some b := hl
    exact (Option.some.inj z).symm
  rintro ⟨r1, r2⟩ s' ⟨rfl, z⟩
  rcases z with ⟨z1, z2⟩ | ⟨z1, z2⟩
  · dsimp only at z1; subst z1; subst z2; exact wpAny_pure q
  · dsimp only at z1; subst z1; subst z2; exact wpAny_pure q
/-! the state takes the exception up -/
section
variable {X : Cx} {pins : List (Addr × Obj)} {σ : St} {H : Hp} {s sI : Shared}
/-- no obligation stands at an address whose thing changes, where a thing was there already -/
theorem Inv.freeze (I : Inv X pins σ H s) {dx : Addr} {fs : List (Str × V)} (hx : H dx = some (.xd fs)) : ∃ o, Inv X pins σ (upd H dx (.frz o (.xd fs))) s := by
  obtain ⟨mA, hmA, hq⟩ := I.hok dx _ hx
  obtain ⟨o, es, ep, ho, hrest⟩ := id hmA
  have off : ∀ {b : Addr} {u : HO}, H b = some u → u ≠ .xd fs → upd H dx (.frz o (.xd fs)) b = some u := fun {b u} e n => by
    rw [upd_ne (ne_of e hx n)]; exact e
  have offN : ∀ {b : Addr}, H b = none → upd H dx (.frz o (.xd fs)) b = none := fun {b} e => by
    rw [upd_ne fun z => by rw [z, hx] at e; cases e]; exact e
  refine ⟨o, I.ok, I.os, I.bare, ⟨I.base.keep, I.base.slot, fun b ob h1 h2 h3 => offN (I.base.free b ob h1 h2 h3), I.base.there, fun b xs e => off (I.base.tups b xs e) (by intro z; cases z), fun b ob u e => off (I.base.frzs b ob u e) (by intro z; cases z), fun b ps e => ?_⟩, I.loc, I.cell, offN I.free, fun x c e => offN (I.freeC x c e), fun p hp => ?_, fun b ob e => ?_, I.len⟩
  · obtain ⟨more, q⟩ := I.base.tbls b ps e
    exact ⟨more, off q (by intro z; cases z)⟩
  · obtain ⟨h1, h2, h3⟩ := I.pin p hp
    exact ⟨h1, offN h2, h3⟩
  · by_cases hb : b = dx
    · subst hb
      rw [upd_same] at e
      cases e
      exact ⟨ho, mA, hmA, hq⟩
    · rw [upd_ne hb] at e
      exact (I.hok b ob e).stay (fun _ _ _ z => z) (fun c z => off z (by intro y; cases y)) fun c xs z => off z (by intro y; cases y)
/-- the exception's own object is tracked -/
theorem Inv.adopt {B : Heap} {H0 : Hp} {a : Addr} {oe : Obj} {vs : Array Value} (J : Inv X pins σ H0 sI) (I : Inv X pins σ H s) (nb : ∀ b o, sI.heap.get? b = some o → b ∉ frs X.stack → B.get? b = some o) (hB : B.get? a = none)
    (na : H a = none) (nfr : a ∉ frs X.stack) (nL : a ≠ X.env.locals) (ha : s.heap.get? a = some oe) (hd : oe.data = .fields vs) (hex : ∀ ob, X.s_0.heap.get? a = some ob → a ∉ X.ex) :
    Inv X pins σ (upd H a (.ext fun h => h.get? a = some oe)) s := by
  have off : ∀ {b : Addr} {u : HO}, H b = some u → upd H a (.ext fun h => h.get? a = some oe) b = some u := fun {b u} e => by
    rw [upd_ne (ne_of_none e na)]; exact e
  have offN : ∀ {b : Addr}, b ≠ a → H b = none → upd H a (.ext fun h => h.get? a = some oe) b = none := fun {b} n e => by
    rw [upd_ne n]; exact e
  have gone : ∀ ob, sI.heap.get? a = some ob → False := fun ob e => by
    have := nb a ob e nfr
    rw [hB] at this; cases this
  have old : ∀ ob, X.s_0.heap.get? a = some ob → False := fun ob e => by
    obtain ⟨o', e'⟩ := J.base.there a ob e (hex ob e)
    exact gone _ e'
  refine ⟨I.ok, I.os, I.bare, ⟨I.base.keep, I.base.slot, fun b ob h1 h2 h3 => offN (fun z => old ob (z ▸ h1)) (I.base.free b ob h1 h2 h3), I.base.there, fun b xs e => off (I.base.tups b xs e), fun b ob u e => off (I.base.frzs b ob u e), fun b ps e => ?_⟩, I.loc, I.cell, offN (fun z => nL z.symm) I.free, fun x c e => offN (fun z => ?_) (I.freeC x c e), fun p hp => ?_, fun b ob e => ?_, I.len⟩
  · obtain ⟨more, q⟩ := I.base.tbls b ps e
    exact ⟨more, off q⟩
  · obtain ⟨v, o, ho, hdd⟩ := I.cell x c e
    rw [z, ha] at ho
    cases ho
    rw [hd] at hdd; cases hdd
  · obtain ⟨h1, h2, h3⟩ := I.pin p hp
    exact ⟨h1, offN (fun z => gone p.2 (z ▸ (J.pin p hp).1)) h2, h3⟩
  · by_cases hb : b = a
    · subst hb
      rw [upd_same] at e
      cases e
      exact ⟨ha, ⟨oe, ha⟩, fun h1 h2 z y => y _ z⟩
    · rw [upd_ne hb] at e
      exact (I.hok b ob e).stay (fun _ _ _ z => z) (fun c z => off z) fun c xs z => off z
theorem Inv.toSuite (I : Inv X pins σ H s) (a : Addr) : Inv (X.suite a (X.pn ++ pins)) [] σ H s where
  ok := I.ok.suite a _
  os := I.os
  bare := I.bare
  base := I.base
  loc := I.loc
  cell := I.cell
  free := I.free
  freeC := I.freeC
  pin := fun p hp => I.pin p (by rw [List.append_nil] at hp; exact hp)
  hok := I.hok
  len := I.len
theorem Inv.ofSuite {a : Addr} {pn' : List (Addr × Obj)} (ok : X.Ok) (I : Inv (X.suite a (X.pn ++ pins)) pn' σ H s) : Inv X pins σ H s where
  ok := ok
  os := I.os
  bare := I.bare
  base := I.base
  loc := I.loc
  cell := I.cell
  free := I.free
  freeC := I.freeC
  pin := fun p hp => I.pin p (List.mem_append.mpr (.inl hp))
  hok := I.hok
  len := I.len
end
/-! what a clause names -/
inductive NamesOk (X : Cx) : List Expr → List Value → Prop
  | nil : NamesOk X [] []
  | cons {x : Str} {p : Pos} {v : Value} {es : List Expr} {vs : List Value} (hg : Gl X x) (hd : (x == ("__debug__" : Str)) = false) (hm : X.mg x = some v) (r : NamesOk X es vs) : NamesOk X (.Name x p :: es) (v :: vs)
theorem names_read {X : Cx} {a : Addr} {pn : List (Addr × Obj)} {σ : St} {H : Hp} {s : Shared} {pos : Pos} {E : Value → Shared → Prop} (I : Inv (X.suite a pn) [] σ H s) :
    ∀ {es : List Expr} {vs : List Value} {Q : List Value → Shared → Prop}, NamesOk X es vs → Q vs s → wpAny (model X.prog X.w) (X.A.mark (some (.ref a))) (spliced (backTo pos (starEach es X.env))) Q E s := by
  intro es vs Q n
  induction n generalizing Q with
  | nil => exact fun q => wpAny_items_nil q
  | @cons x p v es vs hg hd hm r ih =>
    intro q
    exact wpAny_items_cons (ld_glob (X := X.suite a pn) I hg hm (ih q) hd)
/-- the test of a clause: one class, or a tuple of classes -/
def TestOk (X : Cx) (t : Expr) (vs : List Value) : Prop := ∀ (a : Addr) (pn : List (Addr × Obj)) (σ : St) (H : Hp) (s : Shared) (cls : Value) (b : Bool) (oe : Obj) (Q : Bool → Shared → Prop) (E : Value → Shared → Prop),
  Inv (X.suite a pn) [] σ H s → s.heap.get? a = some oe → oe.cls = cls → PySem.W.exmAny X.K cls vs = some b → (∀ h', (∀ p o, s.heap.get? p = some o → h'.get? p = some o) → Q b { s with heap := h' }) →
    wpAny (model X.prog X.w) (X.A.mark (some (.ref a))) (eval t X.env) (fun c s1 => wpAny (model X.prog X.w) (X.A.mark (some (.ref a))) (excMatches (.ref a) c) Q E s1) E s
theorem looks_cls {M : Model} {h : Heap} {a : Addr} {oe : Obj} {cls : Value} (e : h.get? a = some oe) (z : oe.cls = cls) : PySem.W.Looks M h (typeOf (.ref a)) cls :=
  fun A Q E s k q => wpAny_typeOf_ref (k _ _ e) (by rw [z]; exact q)
theorem test_one {X : Cx} {x : Str} {p : Pos} {v : Value} (hg : Gl X x) (hd : (x == ("__debug__" : Str)) = false) (hm : X.mg x = some v) : TestOk X (.Name x p) [v] := by
  intro a pn σ H s cls b oe Q E I ha hc hx q
  obtain ⟨b1, d1, h1, h2, h3⟩ := PySem.W.exmAny_cons hx
  have hd1 : some false = some d1 := h2
  cases hd1
  have hb : b = b1 := by rw [h3]; simp
  subst hb
  refine ld_glob (X := X.suite a pn) I hg hm ?_ hd
  exact (PySem.W.exm_one I.kIn (looks_cls ha hc) h1).here (q s.heap fun _ _ z => z)
theorem test_list {X : Cx} {es : List Expr} {vs : List Value} {k : Nat} {p : Pos} (n : NamesOk X es vs) (hl : vs.length ≤ sizeLine := by decide) : TestOk X (.Tuple es k p) vs := by
  intro a pn σ H s cls b oe Q E I ha hc hx q
  refine wpAny_Tuple (names_read I n ⟨hl, ?_⟩)
  have kp : ∀ p o, s.heap.get? p = some o → (s.heap.push { cls := .type "tuple", data := .seq vs.toArray }).get? p = some o := fun _ _ z => Heap.get?_push_of_some _ z
  exact (exm_list vs (I.kIn.keeps kp) ((looks_cls ha hc).keeps kp) (Heap.get?_push_size s.heap rfl) hx).here (q _ kp)
/-! the clauses, one behind the other -/
def Kept (H : Hp) (d : Option Addr) (a : Addr) (oe : Obj) (H2 : Hp) : Prop :=
  ∃ H1, ((d = none ∧ H1 = H) ∨ ∃ dx fs o, d = some dx ∧ H dx = some (.xd fs) ∧ H1 = upd H dx (.frz o (.xd fs))) ∧ H2 = upd H1 a (.ext fun h => h.get? a = some oe)
def outAs (i : Nat) (D : Ends) : Ends := { nx := fun σ' H' => D.nx (σ'.set i none) H', rt := D.rt, bk := fun σ' H' => D.bk (σ'.set i none) H', ct := fun σ' H' => D.ct (σ'.set i none) H' }
def wC (K : PySem.W.Frag) (Wout : WX) (D : Ends) : List (List Value × Nat × TS) → WX
  | [] => Wout
  | (vs, i, ts) :: r => fun cls d σ H => ∃ b, PySem.W.exmAny K cls vs = some b ∧
      (b = true → (d = none ∨ ∃ dx fs, d = some dx ∧ H dx = some (.xd fs)) ∧ ∀ a oe H2, H a = none → Zc cls d oe → (∃ f, oe.data = .fields f) → Kept H d a oe H2 → ts (outAs i D) (σ.set i (some (.ref a))) H2) ∧
      (b = false → wC K Wout D r cls d σ H)
inductive HdC (X : Cx) : List ExceptHandler → List (List Value × Nat × TS) → Prop
  | nil : HdC X [] []
  | cons {t : Expr} {n : Str} {i : Nat} {vs : List Value} {b₀ : Stmt} {suite : List Stmt} {p : Pos} {ts : TS} {hds : List ExceptHandler} {l : List (List Value × Nat × TS)} (ht : TestOk X t vs) (hi : X.N[i]? = some n) (hn : X.env.kindOf n = some .local)
      (hsu : ∀ (a : Addr) (pn : List (Addr × Obj)), PSs (X.suite a pn) (b₀ :: suite) ts) (r : HdC X hds l) : HdC X (.ExceptHandler (some t) (some n) (b₀ :: suite) p :: hds) ((vs, i, ts) :: l)
  | cons0 {t : Expr} {i : Nat} {vs : List Value} {b₀ : Stmt} {suite : List Stmt} {p : Pos} {ts : TS} {hds : List ExceptHandler} {l : List (List Value × Nat × TS)} (ht : TestOk X t vs) (hi : X.N.length = i)
      (hsu : ∀ (a : Addr) (pn : List (Addr × Obj)), PSs (X.suite a pn) (b₀ :: suite) ts) (r : HdC X hds l) : HdC X (.ExceptHandler (some t) none (b₀ :: suite) p :: hds) ((vs, i, ts) :: l)
theorem flying_keeps {B h h' : Heap} {l : List PySem.Env} {e : Addr} {Z : Obj → Prop} (x : HandSPX.FlyingZ B l e Z h) (k : ∀ p o, h.get? p = some o → h'.get? p = some o) : HandSPX.FlyingZ B l e Z h' := by
  obtain ⟨x1, x2, x3, oe, vs, T, oT, ts, y1, y2, y3, y4, y5, y6, y7, y8⟩ := x
  exact ⟨fun b o e => k _ _ (x1 b o e), x2, x3.of_keeps fun b o e _ => ⟨o, k _ _ e, rfl⟩, oe, vs, T, oT, ts, k _ _ y1, y2, y3, y4, y5, y6, k _ _ y7, y8⟩
section
variable {X : Cx} {body : List Stmt} {h₀ : ExceptHandler} {hds : List ExceptHandler} {l : List (List Value × Nat × TS)} {pos : Pos} {tb : WX → TS} {Wout : WX}
theorem ps_tryC (hs : X.stack = X.env :: X.outer) (hf : X.env.frame = some X.env.locals) (hN : X.N.Nodup) (hex : X.ex = []) (tk : Takes X Wout)
    (hb : ∀ (W : WX) (pn : List (Addr × Obj)) (xe : Value → Shared → Prop), Takes (X.tr pn xe) W → PSs (X.tr pn xe) body (tb W)) (hh : HdC X (h₀ :: hds) l) :
    PS X (.Try body (h₀ :: hds) [] [] pos) (fun D σ H => tb (wC X.K Wout D l) D σ H) := by
  constructor
  intro pins s σ H D I wish
  have ok := I.ok
  have fr0 : X.A.frames = some (X.env :: X.outer) := by rw [ok.frames, hs]
  let catcher : Value → Shared → Prop := fun e s₁ => wpAny (model X.prog X.w) X.A (noteFrame e X.env) (fun _ s₂ => wpAny (model X.prog X.w) X.A (setFlight e none)
    (fun _ s₃ => wpAny (model X.prog X.w) X.A (handleBy e X.env (h₀ :: hds)) (SP X pins D) X.xe s₃) X.xe s₂) X.xe s₁
  have caught : Takes (X.tr (X.pn ++ pins) catcher) (wC X.K Wout D l) := by
    rintro u s' ⟨a, B, sI, pins', σ', H', cls, d, rfl, J', nb, up, sky, na, os, ag, w⟩
    have J : Inv X pins σ' H' sI := J'.ofTry ok
    have nb : ∀ b o, sI.heap.get? b = some o → b ∉ frs X.stack → B.get? b = some o := nb
    rw [show (X.tr (X.pn ++ pins) catcher).stack = X.env :: X.outer from hs] at sky
    show wpAny (model X.prog X.w) X.A (noteFrame (.ref a) X.env) _ _ _
    refine Sky.land Zc.steady fr0 hf sky fun h3 fl3 up3 => ?_
    obtain ⟨oe3, vs3, he3, hz3, hd3⟩ := fl3.there
    have hBa : B.get? a = none := fl3.2.1
    have nfr : a ∉ frs (X.env :: X.outer) := fun hm => by
      obtain ⟨_, o', e', hnf⟩ := fl3.2.2.1.mem hm
      rw [he3] at e'; cases e'
      exact hnf _ hd3
    have nL : a ≠ X.env.locals := fun z => nfr (List.mem_filterMap.mpr ⟨X.env, List.mem_cons_self, by rw [hf, z]⟩)
    have nfr' : a ∉ frs X.stack := by rw [hs]; exact nfr
    -- a heap that has grown since
    have go : ∀ {hds' : List ExceptHandler} {l' : List (List Value × Nat × TS)}, HdC X hds' l' → wC X.K Wout D l' cls d σ' H' → ∀ h3 : Heap, HandSPX.FlyingZ B (X.env :: X.outer) a (Zc cls d) h3 → s'.heap.UpToSlots h3 →
        wpAny (model X.prog X.w) X.A (handleBy (.ref a) X.env hds') (SP X pins D) X.xe { s' with heap := h3 } := by
      intro hds' l' hk
      induction hk with
      | nil =>
        intro w h3 fl3 up3
        refine wpAny_handleBy_nil ?_
        obtain ⟨k1, k2, k3, oe, vs, T, oT, ts', he, hz, hd, h1, hr⟩ := id fl3
        unfold PySem.passOn
        refine wpAny_bind (wpAny_field he hd h1 ?_)
        rw [if_neg (show ¬ ((Value.ref T == Value.none) = true) from by simp)]
        have away : wpAny (model X.prog X.w) X.A (setFlight (.ref a) X.env.frame) (fun _ z => wpAny (model X.prog X.w) X.A (throw (.ref a) : Sem Flow) (SP X pins D) X.xe z) X.xe { s' with heap := h3 } := by
          rw [hf]
          exact HandSPX.setFlight_upZ fl3 fun h4 hh4 up4 => wpAny_throw (tk _ _ ⟨a, B, sI, pins, σ', H', cls, d, rfl, J, nb, (up.trans up3).trans up4, .inr (.inr (by rw [hs]; exact hh4)), na, os, ag, w⟩)
        first
          | exact wpAny_bind (wpAny_pure (wpAny_bind away))
          | exact wpAny_bind away
      | @cons t n i vs b₀ suite p ts hds2 l2 ht hi hn hsu r ih =>
        intro w h3 fl3 up3
        obtain ⟨b, hb1, hyes, hno⟩ := w
        have J3 : Inv X pins σ' H' { s' with heap := h3 } := J.landed nb fl3.1 (up.trans up3) os ag
        obtain ⟨oe3, vs3, he3, hz3, hd3⟩ := fl3.there
        refine wpAny_handleBy_cons (codeAny_handlers_test ?_) (by intro q; cases q)
        refine ht a (X.pn ++ pins) σ' H' { s' with heap := h3 } cls b oe3 _ _ (Inv.toSuite J3 a) he3 hz3.1 hb1 fun h4 k4 => ?_
        have fl4 := flying_keeps fl3 k4
        have up4 : s'.heap.UpToSlots h4 := up3.trans (Heap.UpToSlots.of_keeps k4)
        cases b with
        | true =>
          refine codeAny_handlers_suite_as ?_
          refine HandSPX.lands_againZ fl4 fun h5 fl5 up5 => ?_
          have J5 : Inv X pins σ' H' { s' with heap := h5 } := J.landed nb fl5.1 ((up.trans up4).trans up5) os ag
          obtain ⟨oe5, vs5, he5, hz5, hd5⟩ := fl5.there
          obtain ⟨hdict, hgo⟩ := hyes rfl
          have taken : ∃ H2, Kept H' d a oe5 H2 ∧ Inv X pins σ' H2 { s' with heap := h5 } := by
            rcases hdict with e | ⟨dx, fs, e, hx⟩
            · exact ⟨_, ⟨H', .inl ⟨e, rfl⟩, rfl⟩, Inv.adopt J J5 nb hBa na nfr' nL he5 hd5 (fun _ _ => by rw [hex]; simp)⟩
            · obtain ⟨o, F5⟩ := Inv.freeze J5 hx
              have na2 : upd H' dx (.frz o (.xd fs)) a = none := by
                rw [upd_ne fun z => by rw [z, hx] at na; cases na]; exact na
              exact ⟨_, ⟨_, .inr ⟨dx, fs, o, e, hx, rfl⟩, rfl⟩, Inv.adopt J F5 nb hBa na2 nfr' nL he5 hd5 (fun _ _ => by rw [hex]; simp)⟩
          obtain ⟨H2, hk2, T2⟩ := taken
          refine store_ok (X := X.suite a (X.pn ++ pins)) (v := .ref a) (Inv.toSuite T2 a) hN hi (.inl hn) rfl (fun s6 S6 => ?_) (.inr hn)
          refine wpAny_mono ((hsu a (X.pn ++ pins)).run [] s6 _ H2 _ S6 (hgo a oe5 H2 na hz5 ⟨_, hd5⟩ hk2)) (fun f s7 res => ?_) (fun _ _ z => False.elim z)
          have over : ∀ {σ7 : St} {H7 : Hp} {Q : Shared → Prop}, Inv (X.suite a (X.pn ++ pins)) [] σ7 H7 s7 → (∀ s8, Inv X pins (σ7.set i none) H7 s8 → Q s8) →
              wpAny (model X.prog X.w) X.A (do bindName X.env n .none; unbindBehindTheSuite X.env n p) (fun _ s8 => Q s8) X.xe s7 := fun S7 hq => gone_ok (Inv.ofSuite ok S7) hN hi hn hq
          cases f with
          | ret u =>
            obtain ⟨v7, σ7, H7, S7, r7, q7⟩ := res
            exact over S7 fun s8 J8 => ⟨_, _, _, J8, r7, q7⟩
          | next =>
            obtain ⟨σ7, H7, S7, q7⟩ := res
            exact over S7 fun s8 J8 => ⟨_, _, J8, q7⟩
          | brk =>
            obtain ⟨σ7, H7, S7, q7⟩ := res
            exact over S7 fun s8 J8 => ⟨_, _, J8, q7⟩
          | cont =>
            obtain ⟨σ7, H7, S7, q7⟩ := res
            exact over S7 fun s8 J8 => ⟨_, _, J8, q7⟩
        | false =>
          show wpAny _ X.A (handleBy (.ref a) X.env hds2) _ _ _
          exact ih (hno rfl) h4 fl4 up4
      | @cons0 t i vs b₀ suite p ts hds2 l2 ht hi hsu r ih =>
        intro w h3 fl3 up3
        obtain ⟨b, hb1, hyes, hno⟩ := w
        have J3 : Inv X pins σ' H' { s' with heap := h3 } := J.landed nb fl3.1 (up.trans up3) os ag
        obtain ⟨oe3, vs3, he3, hz3, hd3⟩ := fl3.there
        refine wpAny_handleBy_cons (codeAny_handlers_test ?_) (by intro q; cases q)
        refine ht a (X.pn ++ pins) σ' H' { s' with heap := h3 } cls b oe3 _ _ (Inv.toSuite J3 a) he3 hz3.1 hb1 fun h4 k4 => ?_
        have fl4 := flying_keeps fl3 k4
        have up4 : s'.heap.UpToSlots h4 := up3.trans (Heap.UpToSlots.of_keeps k4)
        cases b with
        | true =>
          refine codeAny_handlers_suite ?_
          refine HandSPX.lands_againZ fl4 fun h5 fl5 up5 => ?_
          have J5 : Inv X pins σ' H' { s' with heap := h5 } := J.landed nb fl5.1 ((up.trans up4).trans up5) os ag
          obtain ⟨oe5, vs5, he5, hz5, hd5⟩ := fl5.there
          obtain ⟨hdict, hgo⟩ := hyes rfl
          have taken : ∃ H2, Kept H' d a oe5 H2 ∧ Inv X pins σ' H2 { s' with heap := h5 } := by
            rcases hdict with e | ⟨dx, fs, e, hx⟩
            · exact ⟨_, ⟨H', .inl ⟨e, rfl⟩, rfl⟩, Inv.adopt J J5 nb hBa na nfr' nL he5 hd5 (fun _ _ => by rw [hex]; simp)⟩
            · obtain ⟨o, F5⟩ := Inv.freeze J5 hx
              have na2 : upd H' dx (.frz o (.xd fs)) a = none := by
                rw [upd_ne fun z => by rw [z, hx] at na; cases na]; exact na
              exact ⟨_, ⟨_, .inr ⟨dx, fs, o, e, hx, rfl⟩, rfl⟩, Inv.adopt J F5 nb hBa na2 nfr' nL he5 hd5 (fun _ _ => by rw [hex]; simp)⟩
          obtain ⟨H2, hk2, T2⟩ := taken
          have w2 := hgo a oe5 H2 na hz5 ⟨_, hd5⟩ hk2
          have out : ∀ {σ9 : St} {x : Option V}, σ9.length = X.N.length → σ9.set i x = σ9 := fun q => List.set_eq_of_length_le (by rw [q, hi]; exact Nat.le_refl _)
          rw [out T2.len] at w2
          refine wpAny_mono ((hsu a (X.pn ++ pins)).run [] _ _ H2 _ (Inv.toSuite T2 a) w2) (fun f s7 res => ?_) (fun _ _ z => False.elim z)
          cases f with
          | ret u =>
            obtain ⟨v7, σ7, H7, S7, r7, q7⟩ := res
            exact ⟨_, _, _, Inv.ofSuite ok S7, r7, q7⟩
          | next =>
            obtain ⟨σ7, H7, S7, q7⟩ := res
            have q8 : D.nx (σ7.set i none) H7 := q7
            rw [out S7.len] at q8
            exact ⟨_, _, Inv.ofSuite ok S7, q8⟩
          | brk =>
            obtain ⟨σ7, H7, S7, q7⟩ := res
            have q8 : D.bk (σ7.set i none) H7 := q7
            rw [out S7.len] at q8
            exact ⟨_, _, Inv.ofSuite ok S7, q8⟩
          | cont =>
            obtain ⟨σ7, H7, S7, q7⟩ := res
            have q8 : D.ct (σ7.set i none) H7 := q7
            rw [out S7.len] at q8
            exact ⟨_, _, Inv.ofSuite ok S7, q8⟩
        | false =>
          show wpAny _ X.A (handleBy (.ref a) X.env hds2) _ _ _
          exact ih (hno rfl) h4 fl4 up4
    exact go hh w h3 fl3 up3
  refine wpAny_Try_except (wpAny_mono ((hb _ (X.pn ++ pins) catcher caught).run [] s σ H D (I.toTry _) wish) (fun f s1 res => ?_) (fun e s1 he => he))
  cases f with
  | next =>
    obtain ⟨σ', H', J', q⟩ := res
    exact wpAny_execs_nil ⟨σ', H', J'.ofTry ok, q⟩
  | ret u =>
    obtain ⟨v, σ', H', J', r, q⟩ := res
    exact ⟨v, σ', H', J'.ofTry ok, r, q⟩
  | brk =>
    obtain ⟨σ', H', J', q⟩ := res
    exact ⟨σ', H', J'.ofTry ok, q⟩
  | cont =>
    obtain ⟨σ', H', J', q⟩ := res
    exact ⟨σ', H', J'.ofTry ok, q⟩
end
end DL

set_option maxHeartbeats 1000000
namespace DL
open PySem PySem.Spec L2
open PyProof.Rows hiding St

/-! ### try with clauses, by data -/
/-- classes that a clause names: which of the classes in play it catches -/
structure TVC (K : PySem.W.Frag) (mg : Str → Option Value) (cs L : List Str) where
  vs : List Value
  g : cs.map mg = vs.map some
  hit : ∀ c', c' ∈ L → ∃ C', PySem.W.nsIn K mainGlobals c' = some (some (.ref C')) ∧ PySem.W.exmAny K (.ref C') vs = some (decide (c' ∈ cs))
  few : vs.length ≤ sizeLine
inductive NamesS (X : Cx) : List Expr → List Str → Prop
  | nil : NamesS X [] []
  | cons {x : Str} {p : Pos} {es : List Expr} {cs : List Str} (hg : Gl X x) (hd : (x == ("__debug__" : Str)) = false) (r : NamesS X es cs) : NamesS X (.Name x p :: es) (x :: cs)
theorem NamesS.ok {X : Cx} : ∀ {es : List Expr} {cs : List Str} {vs : List Value}, NamesS X es cs → cs.map X.mg = vs.map some → NamesOk X es vs := by
  intro es cs vs n
  induction n generalizing vs with
  | nil =>
    intro h
    cases vs with
    | nil => exact .nil
    | cons v vs => cases h
  | @cons x p es cs hg hd r ih =>
    intro h
    cases vs with
    | nil => cases h
    | cons v vs =>
      simp only [List.map_cons, List.cons.injEq] at h
      exact .cons hg hd h.1 (ih h.2)
inductive TestD (X : Cx) : Expr → List Str → Prop
  | one {x : Str} {p : Pos} (hg : Gl X x) (hd : (x == ("__debug__" : Str)) = false) : TestD X (.Name x p) [x]
  | more {es : List Expr} {cs : List Str} {k : Nat} {p : Pos} (n : NamesS X es cs) : TestD X (.Tuple es k p) cs
theorem TestD.ok {X : Cx} {t : Expr} {cs L : List Str} (h : TestD X t cs) (T : TVC X.K X.mg cs L) : TestOk X t T.vs := by
  cases h with
  | more n => exact test_list (n.ok T.g) T.few
  | @one x p hg hd =>
    obtain ⟨vs, g, hit, few⟩ := T
    cases vs with
    | nil => cases g
    | cons v vs =>
      simp only [List.map_cons, List.map_nil, List.cons.injEq] at g
      cases vs with
      | cons _ _ => simp at g
      | nil => exact test_one hg hd g.1
def unb (i : Nat) : Res SR → Res SR
  | .ok (fl, env) ms => .ok (fl, env.set i none) ms
  | .exc x ms => .exc x ms
  | .bad => .bad
@[simp] theorem unb_ok {i : Nat} {fl : Fl} {env : Env} {ms : MS} : unb i (.ok (fl, env) ms) = .ok (fl, env.set i none) ms := rfl
/-- the clauses, one behind the other -/
def hnd : List (List Str × Nat × SF) → Exc → MS → Res SR
  | [], x, ms => .exc x ms
  | (cs, i, Hd) :: r, x, ms => if x.c ∈ cs then unb i (noExc (Hd (x.env.set i (some (.ptr ms.length))) (ms ++ [.exn x.c x.a]))) else hnd r x ms
@[simp] def tryC (L : List Str) (cl : List (List Str × Nat × SF)) (B : SF) : SF := fun env ms => match B env ms with
  | .exc x ms1 => if x.c ∈ L then hnd cl x ms1 else .bad
  | .ok a ms1 => .ok a ms1
  | .bad => .bad
inductive HdD (X : Cx) (L : List Str) : List ExceptHandler → List (List Str × Nat × SF) → Prop
  | nil : HdD X L [] []
  | cons {t : Expr} {n : Str} {i : Nat} {cs : List Str} {b₀ : Stmt} {suite : List Stmt} {p : Pos} {Hd : SF} {hds : List ExceptHandler} {cl : List (List Str × Nat × SF)} (T : TVC X.K X.mg cs L) (ht : TestD X t cs) (hi : X.N[i]? = some n) (hn : X.env.kindOf n = some .local)
      (hsu : ∀ (a : Addr) (pn : List (Addr × Obj)), DSs (X.suite a pn) E00 (b₀ :: suite) Hd) (r : HdD X L hds cl) : HdD X L (.ExceptHandler (some t) (some n) (b₀ :: suite) p :: hds) ((cs, i, Hd) :: cl)
  | cons0 {t : Expr} {i : Nat} {cs : List Str} {b₀ : Stmt} {suite : List Stmt} {p : Pos} {Hd : SF} {hds : List ExceptHandler} {cl : List (List Str × Nat × SF)} (T : TVC X.K X.mg cs L) (ht : TestD X t cs) (hi : X.N.length = i)
      (hsu : ∀ (a : Addr) (pn : List (Addr × Obj)), DSs (X.suite a pn) E00 (b₀ :: suite) Hd) (r : HdD X L hds cl) : HdD X L (.ExceptHandler (some t) none (b₀ :: suite) p :: hds) ((cs, i, Hd) :: cl)
section
variable {K : PySem.W.Frag} {ι : Ct} {H : Hp} {ms : MS} {env : Env} {σ : St}
theorem EnvOk.unset (h : EnvOk K ι H env σ) (i : Nat) : EnvOk K ι H (env.set i none) (σ.set i none) := by
  refine ⟨by simp [h.1], fun j d e => ?_⟩
  by_cases q : j = i
  · subst q
    by_cases hl : j < env.length
    · rw [List.getElem?_set_self hl] at e; cases e
    · rw [List.getElem?_eq_none (by simpa using hl)] at e; cases e
  · rw [List.getElem?_set_ne (Ne.symm q)] at e
    rw [List.getElem?_set_ne (Ne.symm q)]
    exact h.2 j d e
theorem Le.froze {dx : Addr} {fs : List (Str × V)} {o : Obj} (R : Rel K ι H ms) (hx : H dx = some (.xd fs)) : Le ι H ι (upd H dx (.frz o (.xd fs))) := by
  have off : ∀ {b : Addr} {u : HO}, H b = some u → u ≠ .xd fs → upd H dx (.frz o (.xd fs)) b = some u := fun {b u} e n => by
    rw [upd_ne (ne_of e hx n)]; exact e
  refine ⟨⟨[], by simp⟩, rfl, fun p xs e => off e (by intro z; cases z), fun p ob u e => off e (by intro z; cases z), fun p xs e n => ⟨off e (by intro z; cases z), n⟩, fun p hp => ?_⟩
  obtain ⟨_, xs, e⟩ := R.fb p hp
  rw [e]
  exact off e (by intro z; cases z)
theorem CellOk.noxd {p : Addr} {c : Cell} (h : CellOk K ι H p c) : ∀ fs, H p ≠ some (.xd fs) := by
  intro fs e
  cases c with
  | lst ds => obtain ⟨xs, h1, _⟩ := h; rw [h1] at e; cases e
  | obj nm fs => obtain ⟨C, dx, vs, _, h1, _⟩ := h; rw [h1] at e; cases e
  | dK fs => obtain ⟨vs, h1, _⟩ := h; rw [h1] at e; cases e
  | dT fs => obtain ⟨vs, h1, _⟩ := h; rw [h1] at e; cases e
  | exn x y => obtain ⟨oe, C, _, h1, _⟩ := h; rw [h1] at e; cases e
theorem Rel.froze {dx : Addr} {fs : List (Str × V)} {o : Obj} (R : Rel K ι H ms) (hx : H dx = some (.xd fs)) : Rel K ι (upd H dx (.frz o (.xd fs))) ms := by
  refine ⟨R.len, R.nd, fun n p c h1 h2 => ?_, fun p hp => ⟨(R.fb p hp).1, ?_⟩⟩
  · have hc := R.ok n p c h1 h2
    exact hc.mono (Le.froze R hx) (upd_ne fun (z : p = dx) => hc.noxd fs (by rw [z]; exact hx))
  · obtain ⟨_, xs, e⟩ := R.fb p hp
    exact ⟨xs, by rw [upd_ne (ne_of e hx (by intro z; cases z))]; exact e⟩
/-- the exception becomes a cell -/
theorem Rel.kept {x : Exc} {cls : Value} {d : Option Addr} {a : Addr} {oe : Obj} {H2 : Hp} (R : Rel K ι H ms) (hc : ClsIs K H x cls d) (na : H a = none) (hz : Zc cls d oe) (hf : ∃ f, oe.data = .fields f) (k : Kept H d a oe H2) :
    Rel K (ι.push a) H2 (ms ++ [.exn x.c x.a]) ∧ Le ι H (ι.push a) H2 := by
  obtain ⟨H1, h1, rfl⟩ := k
  obtain ⟨hx, C, rfl, hC⟩ := hc
  have both : ∃ H1', H1' = H1 ∧ Rel K ι H1 ms ∧ Le ι H ι H1 ∧ H1 a = none ∧ XF H1 oe.dict x.a := by
    refine ⟨_, rfl, ?_⟩
    rcases h1 with ⟨e, rfl⟩ | ⟨dx, fs, o, e, hdx, rfl⟩
    · refine ⟨R, .refl, na, ?_⟩
      cases q : x.a with
      | none => rw [hz.2, e]; rfl
      | some z =>
        obtain ⟨f, i⟩ := z
        rw [q, e] at hx
        obtain ⟨dx, hh, _⟩ := hx
        cases hh
    · refine ⟨R.froze hdx, Le.froze R hdx, ?_, ?_⟩
      · rw [upd_ne fun z => by rw [z, hdx] at na; cases na]; exact na
      · cases q : x.a with
        | none =>
          rw [q, e] at hx
          cases hx
        | some z =>
          obtain ⟨f, i⟩ := z
          rw [q, e] at hx
          obtain ⟨dx', hh, hg⟩ := hx
          cases hh
          rw [hdx] at hg
          cases hg
          exact ⟨dx, o, by rw [hz.2, e], upd_same⟩
  obtain ⟨_, rfl, R1, l1, na1, hxf⟩ := both
  refine ⟨R1.newM na1 ⟨oe, C, hC, upd_same, hz.1, hf, hxf.imp fun q o u e => ?_⟩, l1.trans (Le.newM R1 na1)⟩
  rw [upd_ne (ne_of_none e na1)]; exact e
end
section
variable {X : Cx} {E : EW} {L : List Str}
theorem outS_unb {K : PySem.W.Frag} {ι : Ct} {H : Hp} {i : Nat} {r : Res SR} {D : Ends} (o : OutS K E ι H (unb i (noExc r)) D) : OutS K E00 ι H r (outAs i D) := by
  cases r with
  | bad => exact o
  | exc x ms => exact o.elim
  | ok a ms =>
    obtain ⟨fl, env'⟩ := a
    cases fl with
    | ret d => exact o
    | nx => exact fun σ' ι' H' R l e => o (σ'.set i none) ι' H' R l (e.unset i)
    | brk => exact fun σ' ι' H' R l e => o (σ'.set i none) ι' H' R l (e.unset i)
    | cont => exact fun σ' ι' H' R l e => o (σ'.set i none) ι' H' R l (e.unset i)
theorem HdD.use {hds : List ExceptHandler} {cl : List (List Str × Nat × SF)} (h : HdD X L hds cl) : ∃ l, HdC X hds l ∧
    ∀ (D : Ends) (x : Exc) (ms : MS) (ι : Ct) (H : Hp) (σ : St) (cls : Value) (d : Option Addr), x.c ∈ L → Rel X.K ι H ms → EnvOk X.K ι H x.env σ → ClsIs X.K H x cls d → OutS X.K E ι H (hnd cl x ms) D → wC X.K (WofE X.K E) D l cls d σ H := by
  induction h with
  | nil => exact ⟨[], .nil, fun D x ms ι H σ cls d hL R ev hc o => ⟨x, ι, hc, ev, o ι H R .refl⟩⟩
  | @cons t n i cs b₀ suite p Hd hds cl T ht hi hn hsu r ih =>
    obtain ⟨l, hl, use⟩ := ih
    refine ⟨(T.vs, i, tS X.K E00 Hd) :: l, .cons (ht.ok T) hi hn hsu hl, fun D x ms ι H σ cls d hL R ev hc o => ?_⟩
    obtain ⟨C', e1, e2⟩ := T.hit _ hL
    obtain ⟨hx, C, rfl, hC⟩ := id hc
    rw [e1] at hC
    cases hC
    unfold hnd at o
    refine ⟨_, e2, fun hb => ?_, fun hb => ?_⟩
    · have hb' : x.c ∈ cs := of_decide_eq_true hb
      rw [if_pos hb'] at o
      refine ⟨?_, fun a oe H2 na hz hf hk => ?_⟩
      · cases q : x.a with
        | none => rw [q] at hx; exact .inl hx
        | some z =>
          obtain ⟨f, j⟩ := z
          rw [q] at hx
          obtain ⟨dx, e, g⟩ := hx
          exact .inr ⟨dx, _, e, g⟩
      · obtain ⟨R2, l2⟩ := R.kept hc na hz hf hk
        have hp : (ι.push a).a[ms.length]? = some a := by
          show (ι.a ++ [a])[ms.length]? = some a
          rw [← R.len, List.getElem?_append_right (Nat.le_refl _)]
          simp
        exact ⟨ι.push a, x.env.set i (some (.ptr ms.length)), ms ++ [.exn x.c x.a], R2, (ev.mono l2).set (show Rp X.K (ι.push a) H2 (.ptr ms.length) (.ref a) from ⟨a, rfl, hp⟩) i, OutS.from l2 (outS_unb o)⟩
    · have hb' : ¬ x.c ∈ cs := of_decide_eq_false hb
      rw [if_neg hb'] at o
      exact use D x ms ι H σ _ d hL R ev hc o
  | @cons0 t i cs b₀ suite p Hd hds cl T ht hi hsu r ih =>
    obtain ⟨l, hl, use⟩ := ih
    refine ⟨(T.vs, i, tS X.K E00 Hd) :: l, .cons0 (ht.ok T) hi hsu hl, fun D x ms ι H σ cls d hL R ev hc o => ?_⟩
    obtain ⟨C', e1, e2⟩ := T.hit _ hL
    obtain ⟨hx, C, rfl, hC⟩ := id hc
    rw [e1] at hC
    cases hC
    unfold hnd at o
    refine ⟨_, e2, fun hb => ?_, fun hb => ?_⟩
    · have hb' : x.c ∈ cs := of_decide_eq_true hb
      rw [if_pos hb'] at o
      refine ⟨?_, fun a oe H2 na hz hf hk => ?_⟩
      · cases q : x.a with
        | none => rw [q] at hx; exact .inl hx
        | some z =>
          obtain ⟨f, j⟩ := z
          rw [q] at hx
          obtain ⟨dx, e, g⟩ := hx
          exact .inr ⟨dx, _, e, g⟩
      · obtain ⟨R2, l2⟩ := R.kept hc na hz hf hk
        have hp : (ι.push a).a[ms.length]? = some a := by
          show (ι.a ++ [a])[ms.length]? = some a
          rw [← R.len, List.getElem?_append_right (Nat.le_refl _)]
          simp
        exact ⟨ι.push a, x.env.set i (some (.ptr ms.length)), ms ++ [.exn x.c x.a], R2, (ev.mono l2).set (show Rp X.K (ι.push a) H2 (.ptr ms.length) (.ref a) from ⟨a, rfl, hp⟩) i, OutS.from l2 (outS_unb o)⟩
    · have hb' : ¬ x.c ∈ cs := of_decide_eq_false hb
      rw [if_neg hb'] at o
      exact use D x ms ι H σ _ d hL R ev hc o
theorem s_tryC {body : List Stmt} {h₀ : ExceptHandler} {hds : List ExceptHandler} {pos : Pos} {B : SF} {cl : List (List Str × Nat × SF)} (hd : HdD X L (h₀ :: hds) cl) (tk : Takes X (WofE X.K E))
    (hb : ∀ (E' : EW) (pn : List (Addr × Obj)) (xe : Value → Shared → Prop), Takes (X.tr pn xe) (WofE X.K E') → DSs (X.tr pn xe) E' body B)
    (hs : X.stack = X.env :: X.outer := by rfl) (hf : X.env.frame = some X.env.locals := by rfl) (hN : X.N.Nodup := by decide) (hex : X.ex = [] := by rfl) : DS X E (.Try body (h₀ :: hds) [] [] pos) (tryC L cl B) := by
  obtain ⟨l, hl, use⟩ := hd.use (E := E)
  exact PS.conv (ps_tryC (tb := fun W => tS X.K (EofW X.K W) B) hs hf hN hex tk (fun W pn xe t => hb _ pn xe (takes_E t)) hl) fun σ H D ⟨ι, env, ms, r, ev, o⟩ => ⟨ι, env, ms, r, ev, by
    unfold tryC at o
    cases q : B env ms with
    | bad => simp only [q] at o; exact o
    | ok a ms1 => simp only [q] at o; exact outS_ok o
    | exc x ms1 =>
      simp only [q] at o
      intro ι' H' R' l' σ' cls d ev' hc
      by_cases h : x.c ∈ L
      · rw [if_pos h] at o
        exact use D x ms1 ι' H' σ' cls d h R' ev' hc (OutS.from l' o)
      · rw [if_neg h] at o; exact o.elim⟩
end
end DL

set_option maxHeartbeats 1000000
namespace DL
open PySem PySem.Spec L2
open PyProof.Rows hiding St

/-! ### isinstance of a kept exception -/
/-- e.__class__, whatever e's dict holds -/
theorem class_of_exc {K : PySem.W.Frag} {C : Addr} (T : ExcC K C) {prog : Program} {w : World} {A : Around} {E : Value → Shared → Prop} {Q : Option Value → Shared → Prop} {s : Shared} {x : Addr} {ox : Obj} {od : Option Obj}
    (X : K.In s.heap) (I : PySem.W.InstAt s.heap x ox C od) (z : Q (some (.ref C)) { s with toks := s.toks + 1 }) : wpAny (model prog w) A (getAttr? (.ref x) "__class__") Q E s := by
  open PySem.W PySem.Calls Builtin Builtin.ObjectAttr in
  have seen : PySem.W.findObj K C od "__class__" = some (.bind (.builtin "getset_descriptor.__get__") (.builtin "object.__class__")) := by
    obtain ⟨cd, hc, _⟩ := PySem.W.any_some T.hd
    unfold PySem.W.findObj
    rw [hc, Option.bind_some, T.ha, Option.bind_some]
    simp [T.hn, T.ht]
  obtain ⟨hp, g, d, tk, os⟩ := s
  have ty := I.type (M := model prog w)
  have f1 := PySem.W.looks_findIn (M := model prog w) X T.hg
  have f2 := PySem.W.looks_findIn (M := model prog w) X T.hk
  have f3 := PySem.W.looks_find (M := model prog w) X I seen
  have sub : PySem.W.Looks (model prog w) hp (isInstance (.ref x) (.type "BaseException")) true := ty.andThen (PySem.W.looks_subIn X T.hs)
  have n0 : (false && onTheHeap (Value.builtin "BaseException.__getattribute__")) = false := rfl
  have n2 : (Value.builtin "BaseException.__getattribute__" == Value.builtin "object.__getattribute__") = false := by decide +kernel
  have n1 : (onTheHeap (Value.ref C) && Value.builtin "BaseException.__getattribute__" == Value.builtin "object.__getattribute__") = false := by
    rw [n2]
    rfl
  unfold getAttr? getAttrBy? getAttrBy
  refine wpAny_bind (wpAny_mkText (wpAny_bind (wpAny_attempt (wpAny_holding ?_))))
  refine wpAny_bind (ty.at (wpAny_bind (f1.at ?_)))
  show wpAny _ _ (if (onTheHeap (Value.ref C) && Value.builtin "BaseException.__getattribute__" == Value.builtin "object.__getattribute__") = true then _ else _) _ _ _
  rw [n1, if_neg Bool.false_ne_true]
  unfold getAttrByItsOwn hookBefore
  refine wpAny_bind ?_
  rw [if_pos (show onTheHeap (Value.ref C) = true from rfl)]
  refine f2.at (wpAny_bind (wpAny_attempt (wpAny_holding ?_)))
  unfold callGetattribute
  rw [n0, if_neg Bool.false_ne_true]
  unfold boundAndCalled
  rw [PySem.F.excAttr_ValueError.ga.bind (.ref x)]
  refine wpAny_bind (wpAny_pure ?_)
  show wpAny _ _ (call (.builtin "BaseException.__getattribute__") [.ref x, .str "__class__" tk]) _ _ _
  refine wpAny_call (codeAny_call_builtin PySem.F.excAttr_ValueError.ga.plain PySem.F.entry_bexc_ga ?_)
  refine @PySem.W.check_slot (model prog w) _ _ ⟨hp, g, d, tk + 1, os⟩ "BaseException.__getattribute__" "BaseException" "__getattribute__" (.ref x) [.str "__class__" tk] [] _ (by decide +kernel) (by decide +kernel) sub (PySem.F.args_bexc_ga (.ref x) (.str "__class__" tk)) ?_
  unfold Builtin.«object.__getattribute__»
  refine wpAny_bind (wpAny_of_eq (a := ((Value.ref x : Value), [Value.str "__class__" tk])) ?_ ?_)
  · first | rfl | (simp only [Builtin.slotArgs]; rfl)
  refine wpAny_bind (wpAny_pure (wpAny_bind (ty.at (wpAny_bind (f3.at ?_)))))
  show wpAny _ _ (holding [Value.builtin "object.__class__"] (call (.builtin "getset_descriptor.__get__") [.builtin "object.__class__", .ref x, .ref C]) >>= ret) _ _ _
  refine wpAny_bind (wpAny_holding (wpAny_call (PySem.W.class_get (s := ⟨hp, g, d, tk + 1, os⟩) (ox := ox) (od := od) X I T.hm ?_)))
  refine wpAny_pure ?_
  show wpAny _ _ (handedOut (.ref C)) _ _ _
  rw [PySem.W.handedOut_of (v := .ref C) rfl]
  first
    | exact wpAny_pure (wpAny_pure z)
    | exact wpAny_pure z
    | exact wpAny_pure (wpAny_bind (wpAny_pure (wpAny_pure z)))
theorem kitx_exc {K : PySem.W.Frag} {C x : Addr} {ox : Obj} {od : Option Obj} (T : ExcC K C) : PySem.W.KitX K (.ref x) (.ref C) (fun h => PySem.W.InstAt h x ox C od) := by
  obtain ⟨cd, hcd, _⟩ := PySem.W.any_some T.hd
  unfold PySem.W.clsIn at hcd
  split at hcd
  · rename_i c' d' cd' sl' ho
    refine ⟨fun _ _ _ I => I.type, fun M h X _ A Q E s k q => ?_, fun h tp dd its n sl X htp => ?_, fun X I z => class_of_exc T X I z⟩
    · unfold isType loadHead
      exact wpAny_bind (wpAny_loadPart (k _ _ (X _ _ ho)) (wpAny_pure q))
    · refine Bool.eq_false_iff.mpr fun q => ?_
      have e : C = tp := Value.ref.inj (beq_iff_eq.mp q)
      subst e
      have both := (X _ _ ho).symm.trans htp
      cases both
  · cases hcd
/-- what the call wishes: a is an exception of the class C -/
def rKept (K : PySem.W.Frag) : List V → Hp → VK → Prop := fun xs H Q => ∃ (a C : Addr) (c : V) (cv : Value) (b : Bool) (oe : Obj) (fa : Option (Str × Int)),
  xs = [.ref a, c] ∧ H a = some (.ext fun h => h.get? a = some oe) ∧ oe.cls = .ref C ∧ XF H oe.dict fa ∧ (∃ f, oe.data = .fields f) ∧ ExcC K C ∧ (∀ u, RelV c u → u = cv) ∧ PySem.W.kitOne K (.ref C) cv = some b ∧ Q (.bl b) H
theorem call_kept {X : Cx} : CallR X (.builtin "isinstance") (rKept X.K) := by
  intro pins s σ H xs us Q I r h
  obtain ⟨a, C, c, cv, b, oe, fa, rfl, hH, hcls, hdict, ⟨f, hf⟩, hC, hcv, e, q⟩ := h
  cases r with
  | cons rx rr =>
    cases rr with
    | cons rt rr =>
      cases rr
      cases rx
      have ec := hcv _ rt
      subst ec
      have at_ : s.heap.get? a = some oe := (I.hok a _ hH).1
      have inst : ∃ od, PySem.W.InstAt s.heap a oe C od := by
        obtain ⟨oc, od, oda, osl⟩ := oe
        dsimp only at hcls hdict hf
        subst hcls hf
        cases fa with
        | none =>
          have hdict : od = none := hdict
          subst hdict
          exact ⟨none, at_, rfl, rfl, trivial⟩
        | some z =>
          obtain ⟨g, i⟩ := z
          obtain ⟨dx, o, e1, e2⟩ := hdict
          subst e1
          exact ⟨some o, at_, rfl, rfl, (I.hok dx _ e2).1⟩
      obtain ⟨od, J⟩ := inst
      refine PySem.W.kia_one (kitx_exc hC) I.kIn J e (fun z => nomatch z) fun tk => ?_
      exact ⟨.bl b, H, I.kept (t' := tk) fun _ _ z => z, rfl, q⟩
/-- a class by its name; which of the classes in play are below it -/
structure IXC (K : PySem.W.Frag) (mg : Str → Option Value) (x : Str) (L S : List Str) where
  v : V
  u : Value
  rel : RelV v u
  only : ∀ w, RelV v w → w = u
  look : mg x = some u ∨ (mg x = none ∧ bootBuiltins x = some u ∧ x ≠ "__name__")
  hit : ∀ c, c ∈ L → ∃ C, PySem.W.nsIn K mainGlobals c = some (some (.ref C)) ∧ ExcC K C ∧ PySem.W.kitOne K (.ref C) u = some (decide (c ∈ S))
theorem kit_same {K : PySem.W.Frag} {C : Addr} : PySem.W.kitOne K (.ref C) (.ref C) = some true := by
  unfold PySem.W.kitOne
  rw [if_pos (by simp)]
theorem kit_no {K : PySem.W.Frag} {C D : Addr} (h1 : PySem.W.isClsIn K D = true) (h2 : PySem.W.typeIn K (.ref D) = some (.type "type")) (h3 : PySem.W.subIn K (.ref D) (.ref D) = some true) (h4 : PySem.W.subIn K (.ref C) (.ref D) = some false) : PySem.W.kitOne K (.ref C) (.ref D) = some false := by
  have ne : C ≠ D := fun e => by
    rw [e, h3] at h4
    cases h4
  have h1' : (PySem.W.clsIn K D).isSome = true := h1
  have nb : (Value.ref C == Value.ref D) = false := by
    rw [beq_eq_false_iff_ne]
    intro e
    cases e
    exact ne rfl
  unfold PySem.W.kitOne PySem.W.kitCls
  simp only [nb, h1', h2, h4, beq_self_eq_true, Bool.and_self, if_true, Bool.false_eq_true, if_false]
theorem kit_bt {K : PySem.W.Frag} {C : Addr} {T : String} {b : Bool} (h1 : PySem.W.kitMeta T = true) (h2 : PySem.W.subIn K (.ref C) (.type T) = some b) : PySem.W.kitOne K (.ref C) (.type T) = some b := by
  unfold PySem.W.kitOne PySem.W.kitCls
  rw [if_neg (by simp)]
  show (if PySem.W.kitMeta T = true then PySem.W.subIn K (.ref C) (.type T) else none) = some b
  rw [if_pos h1]
  exact h2
@[simp] def isxP (L S : List Str) (d : D) (ms : MS) : Res D := match d with
  | .ptr n => match ms[n]? with
    | some (.exn c _) => if c ∈ L then .ok (.bl (decide (c ∈ S))) ms else .bad
    | _ => .bad
  | _ => .bad
section
variable {X : Cx} {E : EW} {k n : Nat} {ps : List Str} {x : Str} {p p2 pos pos' : Pos} {a e : Expr} {es : List Expr} {f : Env → MS → Res D} {fs fk : Env → MS → Res (List D)} {sem : List D → MS → Res D} {L S : List Str}
theorem IXC.pe (T : IXC X.K X.mg x L S) (hg : Gl X x) (hd : (x == ("__debug__" : Str)) = false) : PE X (.Name x p) (tC T.v) := by
  rcases T.look with h | ⟨h1, h2, h3⟩
  · exact pe_glob hg h T.rel hd
  · exact pe_bltn hg h1 h2 T.rel h3 hd
theorem d_isx (T : IXC X.K X.mg x L S) (hi : X.mg "isinstance" = none) (ha : DE X E a f) (hg : Gl X "isinstance" := by rfl) (hgx : Gl X x := by rfl) (hd : (x == ("__debug__" : Str)) = false := by decide)
    (he : starEach [a, .Name x p2] X.env = (false, eval a X.env) :: starEach [.Name x p2] X.env := by rfl) (he2 : starEach [.Name x p2] X.env = (false, eval (.Name x p2) X.env) :: starEach [] X.env := by rfl)
    (hpl : (backTo pos (starEach [.Name x p2] X.env)).any (·.1) = false := by rfl) : DE X E (.Call (.Name "isinstance" p) [a, .Name x p2] [] pos) (unE f (isxP L S)) :=
  PE.conv (pe_callB call_kept hg hi boot_isi (pa_cons ha (pa_cons (T.pe hgx hd) pa_nil he2) he) (by decide) (by decide) he hpl) fun σ H Q ⟨ι, env, ms, r, ev, o⟩ => tR_seq r ev o fun ι1 H1 ms1 d z B o1 => by
    unfold isxP at o1
    cases d with
    | ptr n =>
      dsimp only at o1
      cases q : ms1[n]? with
      | none => simp only [q] at o1; exact o1.elim
      | some c =>
        cases c with
        | exn cn fa =>
          simp only [q] at o1
          by_cases h : cn ∈ L
          · rw [if_pos h] at o1
            obtain ⟨w, rfl, hw⟩ := B.r
            obtain ⟨oe, C, h0, h1, h2, h3, h4⟩ := B.rel.ok n w _ hw q
            obtain ⟨C', e1, e2, e3⟩ := T.hit _ h
            rw [e1] at h0
            cases h0
            exact ⟨w, _, T.v, T.u, _, oe, fa, rfl, h1, h2, h4, h3, e2, T.only, e3, o1 _ ι1 H1 B.rel .refl rfl⟩
          · rw [if_neg h] at o1; exact o1.elim
        | _ => simp only [q] at o1; exact o1.elim
    | _ => exact o1.elim
end

/-! ### methods that may raise -/
structure CalMX (P : Program) (w : World) (K : PySem.W.Frag) (mg : Str → Option Value) (base : Heap) (k : Nat) (nm m : Str) (ps : List Str) (sem : List D → MS → Res D) where
  fl : List Str
  c : KC K mg nm fl
  f : Addr
  fd : FuncData
  ok : FnOk P w K mg base (L2.CX P w) k f fd ps (dSpX K ps.length sem)
  me : Meth K c.C m f
  b : Binds K fd ps []
@[simp] def methXE (nm m : Str) (fo : Env → MS → Res D) (fs : Env → MS → Res (List D)) (n : Nat) (sem : List D → MS → Res D) (env : Env) (ms : MS) : Res D := methE nm m fo fs (callX n sem env) env ms
@[simp] def methKX (nm m : Str) (fo : Env → MS → Res D) (fk : Env → MS → Res (List D)) (np k : Nat) (ix : List Nat) (sem : List D → MS → Res D) (env : Env) (ms : MS) : Res D := methE nm m fo fk (fun ds ms2 => match ds with
  | [] => .bad
  | o :: es => kwX np 1 k ix sem env [o] es ms2) env ms
section
variable {X : Cx} {E : EW} {k n np : Nat} {nm m : Str} {ps : List Str} {pos apos : Pos} {o e : Expr} {es : List Expr} {fo : Env → MS → Res D} {fs fk : Env → MS → Res (List D)} {sem : List D → MS → Res D} {kws : List Keyword} {ks : List Str} {ix : List Nat}
/-- the object, its class, then the rest -/
def tO (K : PySem.W.Frag) (E : EW) (C : Addr) (m : Str) (fo : Env → MS → Res D) (k : Env → D → MS → Res D) : TE := fun σ H Q => tD K E fo σ H fun u H1 => ∃ ι env ms d a dx fv, u = .ref a ∧ H1 a = some (.ins C dx fv) ∧ fv.lookup m = none ∧ Rel K ι H1 ms ∧ EnvOk K ι H1 env σ ∧ Rp K ι H1 d (.ref a) ∧ Out K E (Rp K) ι H1 (k env d ms) Q
theorem objX {K : PySem.W.Frag} {mg : Str → Option Value} {fl : List Str} (T : KC K mg nm fl) {p : Env → List D → MS → Res D} {σ : St} {H : Hp} {Q : VK} (h : tD K E (fun env ms => methE nm m fo fs (p env) env ms) σ H Q) :
    tO K E T.C m fo (fun env d ms => (fs env ms).bind fun ds ms2 => p env (d :: ds) ms2) σ H Q := by
  obtain ⟨ι, env, ms, r, ev, q⟩ := h
  refine tR_seq r ev q fun ι1 H1 ms1 d x B1 o1 => ?_
  cases c : objOf nm ms1 d with
  | none => simp only [c] at o1; exact o1.elim
  | some z =>
    obtain ⟨j, fls⟩ := z
    simp only [c] at o1
    obtain ⟨_, a, dx, vs, rfl, hn, h1, hk⟩ := Rel.objOf T B1.rel c B1.r
    cases l : fls.lookup m with
    | some y => rw [l] at o1; exact o1.elim
    | none =>
      rw [l] at o1
      exact ⟨ι1, env, ms1, d, a, dx, vs, rfl, h1, hk.get.2 l, B1.rel, B1.env, B1.r, o1⟩
theorem c_methX (C : CalMX X.prog X.w X.K X.mg X.base k nm m ps sem) (tk : Takes X (WofE X.K E)) (hr : Room k X.A) (ho : DE X E o fo) (ha : DA X E (e :: es) fs)
    (hst : starEach (e :: es) X.env = (false, eval e X.env) :: starEach es X.env := by rfl) (hpl : (backTo pos (starEach es X.env)).any (·.1) = false := by rfl) {pl : Sem Bool}
    (ht : eval (.Call (.Attribute o m apos) (e :: es) [] pos) X.env = (do
      let ov ← eval o X.env
      standAt apos.atName
      let (f, first) ← holding [ov] (getMethod ov m pl)
      callWith pos f first (backTo pos (starEach (e :: es) X.env)) (backToKw pos (keywordEach [] X.env))) := by rfl) (hn : ps.length = n := by rfl) : DE X E (.Call (.Attribute o m apos) (e :: es) [] pos) (methXE nm m fo fs n sem) := by
  subst hn
  refine ⟨fun pins s σ H Q I h => ?_⟩
  have h' := objX (p := fun env => callX ps.length sem env) C.c h
  refine PySem.W.methodCall_KW (pl := pl) (thn (ho.run pins s σ H _ I h') fun u s1 got => ?_) ht
  obtain ⟨x, H1, I1, rx, ι1, env, ms1, d, a, dx, fv, ex, ea, l, R1, ev1, rd, q⟩ := got
  subst ex
  obtain rfl : u = Value.ref a := rx
  refine getmeth_ok I1 ea C.c.cl C.me l ?_
  have h2 : tAr X.K E fs σ H1 fun vs H2 => dSpX X.K ps.length sem (.ref a :: vs) H2 Q (WE (WofE X.K E) σ) :=
    tR_seq R1 ev1 q fun ι2 H2 ms2 ds vs B2 o2 => by
      unfold callX at o2
      by_cases hl : (d :: ds).length = ps.length
      · rw [if_pos hl] at o2
        exact ⟨ι2, ms2, d :: ds, B2.rel, ⟨_, vs, rfl, Rp.mono B2.le _ _ rd, B2.r⟩, hl, out_at B2.env o2⟩
      · rw [if_neg hl] at o2; exact o2.elim
  refine PySem.W.callWith_K (first := [.ref a]) (h₀ := X.base) I.ok.mod.kin C.me.kp (thn (ha.run pos pins s1 σ H1 _ I1 h2) fun us s2 res => ?_) hst hpl
  obtain ⟨vs, H2, I2, r2, q2⟩ := res
  exact ⟨I2.kIn, run_fnS (us := .ref a :: us) (vs := .ref a :: vs) C.ok hr C.b (passAt tk σ) I2 (.cons rfl r2) q2⟩
theorem c_methX0 (C : CalMX X.prog X.w X.K X.mg X.base k nm m ps sem) (tk : Takes X (WofE X.K E)) (hr : Room k X.A) (ho : DE X E o fo) {pl : Sem Bool}
    (ht : eval (.Call (.Attribute o m apos) [] [] pos) X.env = (do
      let ov ← eval o X.env
      standAt apos.atName
      let (f, first) ← holding [ov] (getMethod ov m pl)
      callWith pos f first (backTo pos (starEach [] X.env)) (backToKw pos (keywordEach [] X.env))) := by rfl) (hn : ps.length = n := by rfl) : DE X E (.Call (.Attribute o m apos) [] [] pos) (methXE nm m fo nilA n sem) := by
  subst hn
  refine ⟨fun pins s σ H Q I h => ?_⟩
  have h' := objX (p := fun env => callX ps.length sem env) C.c h
  refine PySem.W.methodCall_KW (pl := pl) (thn (ho.run pins s σ H _ I h') fun u s1 got => ?_) ht
  obtain ⟨x, H1, I1, rx, ι1, env, ms1, d, a, dx, fv, ex, ea, l, R1, ev1, rd, q⟩ := got
  subst ex
  obtain rfl : u = Value.ref a := rx
  refine getmeth_ok I1 ea C.c.cl C.me l ?_
  have h2 : dSpX X.K ps.length sem [.ref a] H1 Q (WE (WofE X.K E) σ) := by
    have q' : Out X.K E (Rp X.K) ι1 H1 (callX ps.length sem env [d] ms1) Q := q
    unfold callX at q'
    by_cases hl : [d].length = ps.length
    · rw [if_pos hl] at q'
      exact ⟨ι1, ms1, [d], R1, ⟨_, [], rfl, rd, rfl⟩, hl, out_at ev1 q'⟩
    · rw [if_neg hl] at q'; exact q'.elim
  exact PySem.W.callWith_K0 (first := [.ref a]) I1.kIn C.me.kp (run_fnS (us := [.ref a]) (vs := [.ref a]) C.ok hr C.b (passAt tk σ) I1 (.cons rfl .nil) h2)
/-- o.m(k = v, ..) -/
theorem c_methKX {fd : FuncData} (C : CalMX X.prog X.w X.K X.mg X.base k nm m ps sem) (tk : Takes X (WofE X.K E)) (hr : Room k X.A) (hb : KwB X.K fd ps 1 ks ix) (ho : DE X E o fo) (hkw : DK X E kws fk) {j : Nat}
    (hall : (backToKw pos (keywordEach kws X.env)).all (·.1.isSome) = true := by rfl) (hks : (backToKw pos (keywordEach kws X.env)).filterMap (·.1) = ks := by rfl)
    (hpl : ((backTo pos (starEach [] X.env)).any (·.1) || (backToKw pos (keywordEach kws X.env)).any (·.1.isNone)) = false := by rfl) {pl : Sem Bool}
    (ht : eval (.Call (.Attribute o m apos) [] kws pos) X.env = (do
      let ov ← eval o X.env
      standAt apos.atName
      let (f, first) ← holding [ov] (getMethod ov m pl)
      callWith pos f first (backTo pos (starEach [] X.env)) (backToKw pos (keywordEach kws X.env))) := by rfl) (hfd : C.fd = fd := by rfl) (hn : ps.length = np := by rfl) (hj : ks.length = j := by rfl) : DE X E (.Call (.Attribute o m apos) [] kws pos) (methKX nm m fo fk np j ix sem) := by
  subst hn; subst hj; subst hfd
  refine ⟨fun pins s σ H Q I h => ?_⟩
  have h' := objX (p := fun env ds ms2 => match ds with
    | [] => .bad
    | o :: es => kwX ps.length 1 ks.length ix sem env [o] es ms2) C.c h
  refine PySem.W.methodCall_KW (pl := pl) (thn (ho.run pins s σ H _ I h') fun u s1 got => ?_) ht
  obtain ⟨x, H1, I1, rx, ι1, env, ms1, d, a, dx, fv, ex, ea, l, R1, ev1, rd, q⟩ := got
  subst ex
  obtain rfl : u = Value.ref a := rx
  refine getmeth_ok I1 ea C.c.cl C.me l ?_
  have h2 : tAr X.K E fk σ H1 fun zs H2 => zs.length = ks.length ∧ dSpX X.K ps.length sem (pick ix ([.ref a] ++ zs)) H2 Q (WE (WofE X.K E) σ) :=
    tR_seq R1 ev1 q fun ι2 H2 ms2 es zs B2 o2 => by
      dsimp only at o2
      unfold kwX at o2
      by_cases hl : [d].length = 1 ∧ es.length = ks.length ∧ (pick ix ([d] ++ es)).length = ps.length
      · rw [if_pos hl] at o2
        have r1 : Rps X.K ι2 H2 [d] [.ref a] := ⟨_, [], rfl, Rp.mono B2.le _ _ rd, rfl⟩
        exact ⟨B2.r.length.trans hl.2.1, ι2, ms2, _, B2.rel, pick_rps (r1.append B2.r) ix, hl.2.2, out_at B2.env o2⟩
      · rw [if_neg hl] at o2; exact o2.elim
  refine PySem.W.callWith_KW0 (first := [.ref a]) (h₀ := X.base) I.ok.mod.kin C.me.kp hall (thn (hkw.run pos pins s1 σ H1 _ I1 h2) fun ws s2 res => ?_) hpl
  obtain ⟨zs, H2, I2, rz, l2, q2⟩ := res
  refine ⟨I2.kIn, ?_⟩
  rw [hks]
  exact run_fnNS (us := [.ref a]) (vs := [.ref a]) C.ok hr hb.kbn (passAt tk σ) I2 (.cons rfl .nil) rz rfl l2 q2
end
end DL

set_option maxHeartbeats 1000000
namespace PySem
/-! ### own exceptions over KeyError: __new__ is LookupError's, __init__ its own -/
abbrev keyMro : List Value := [.type "KeyError", .type "LookupError", .type "Exception", .type "BaseException", .type "object"]
theorem key_mro : mroOf (.type "KeyError") = pure keyMro := by rw [mroOf_type]; kernel_rfl
theorem key_init : Slot "KeyError" "__init__" "KeyError.__init__" :=
  .of (owner := "KeyError") (n := "__init__") (by rw [typeLookup_type, builtinLookup_eq_fast]; kernel_rfl) (by decide +kernel) (by decide +kernel) (by decide +kernel) (by first | exact .inl (by decide +kernel) | exact .inr (by decide +kernel)) (by rw [isSubtype_type]; kernel_rfl)
theorem key_entry : entryFor table "KeyError.__init__" = some Builtin.«BaseException.__init__» :=
  entryFor_alias (id' := "BaseException.__init__") (by rw [fastTable_eq_tree]; kernel_rfl) (by first | rfl | decide +kernel) (by decide +kernel) (by rw [fastTable_eq_tree]; kernel_rfl)
theorem key_split : splitId "KeyError.__init__" = some ("KeyError", "__init__") := by kernel_rfl
theorem key_kind : builtinKind "KeyError.__init__" = some .slot := by kernel_rfl
theorem key_row : Manifest.signature? "KeyError.__init__" = some ⟨.positional, "*", "KeyError", .self, [⟨"args", .varPos, false⟩]⟩ := by kernel_rfl
section
variable {prog : Program} {w : World} {A : Around} {E : Value → Shared → Prop} {h : Heap} {gs : Array GenState} {dr : Drawn} {tk : Nat} {os : OsState} {nm q : Str} {C N : Addr} {bs bm : List Value} {hdct : Bool} {sn : List Str} {sub : List Value} {ab : Bool} {col : Option Bool} {dd : Option Addr} {k0 k1 k2 k3 k5 : Option Value}
/-- the class object -/
abbrev KeyCls (h : Heap) (C : Addr) (nm q : Str) (N : Addr) (bs bm : List Value) (hdct : Bool) (sn : List Str) (sub : List Value) (ab : Bool) (col : Option Bool) (dd : Option Addr) (k0 k1 k2 k3 k5 : Option Value) : Prop :=
  h.get? C = some (excClassObj nm q C N bs bm hdct sn sub ab col dd k0 k1 k2 k3 k5 "LookupError.__new__")
theorem key_has {b : Bool} {x : String} (T : OwnTail h keyMro bm) (e : keyMro.contains (.type x) = b) : (Value.ref C :: bm).contains (.type x) = b := by
  rw [List.contains_cons, T.hasType e]
  rfl
theorem key_newcheck {M : Model} (T : OwnTail h keyMro bm) {xs : List Value} {Q : Unit → Shared → Prop} (hC : KeyCls h C nm q N bs bm hdct sn sub ab col dd k0 k1 k2 k3 k5) (z : Q () ⟨h, gs, dr, tk, os⟩) :
    wpAny M A (checkBuiltinCall "LookupError.__new__" ⟨.ref C :: xs, []⟩) Q E ⟨h, gs, dr, tk, os⟩ := by
  have F := PySem.F.excBase_LookupError
  have has := key_has (C := C) T (x := "LookupError") (b := true) (by decide +kernel)
  have star := F.noStar
  simp only [checkBuiltinCall, F.newKind, F.newSplit, F.newRow]
  repeat (first
    | refine wpAny_loadPart_at hC ?_
    | (refine wpAny_isSubtype_exc hC ?_; rw [has])
    | refine wpAny_staticBase_exc hC ?_
    | refine wpAny_madeBy_exc hC ?_
    | simp only [bne_self_eq_false, Bool.false_eq_true, if_false]
    | wp_step)
  exact z
/-- the object that __new__ lays -/
abbrev rawExc (h : Heap) (C : Addr) : Obj := { cls := .ref C, data := .fields #[.ref h.objs.size, .none, .none, .none, .bool false, .none] }
abbrev argsObj (xs : List Value) : Obj := { cls := .type "tuple", data := .seq xs.toArray }
theorem key_new {R : Result → Shared → Prop} (T : OwnTail h keyMro bm) {xs : List Value} (hC : KeyCls h C nm q N bs bm hdct sn sub ab col dd k0 k1 k2 k3 k5) (hx : xs.length ≤ sizeLine)
    (z : R (.ok (.ret (.ref (h.objs.size + 1)))) ⟨(h.push (argsObj xs)).push (rawExc h C), gs, dr, tk, os⟩) : codeAny (model prog w) A (.builtin "LookupError.__new__" ⟨.ref C :: xs, []⟩) R ⟨h, gs, dr, tk, os⟩ := by
  have F := PySem.F.excBase_LookupError
  have hends := F.ends
  have has1 := key_has (C := C) T (x := "LookupError") (b := true) (by decide +kernel)
  have has2 := key_has (C := C) T (x := "AttributeError") (b := false) (by decide +kernel)
  have has3 := key_has (C := C) T (x := "NameError") (b := false) (by decide +kernel)
  have hrest := hx
  refine codeAny_builtinAt F.entry ?_
  unfold Builtin.«BaseException.__new__»
  refine wpAt_bind ?_
  show wpAt _ _ _ (stack >>= _) _ _ _
  refine wpAt_bind (wpAt_stack fun _ _ => wpAt_of_wpAny ?_)
  wp_walk
  refine wpAt_of_wpAny ?_
  rw [F.owner]
  repeat (first
    | with_reducible refine wpAny_madeHere_exc F.canon hC ?_
    | with_reducible refine wpAny_loadPart_at hC ?_
    | (with_reducible refine wpAny_isSubtype_exc hC ?_
       first | rw [has1] | rw [has2] | rw [has3])
    | wp_step)
  show R _ _
  rw [Heap.size_push]
  exact z
theorem key_initcheck {M : Model} {e : Addr} {oe : Obj} (T : OwnTail h keyMro bm) {xs : List Value} {Q : Unit → Shared → Prop} (hC : KeyCls h C nm q N bs bm hdct sn sub ab col dd k0 k1 k2 k3 k5) (he : h.get? e = some oe) (hcls : oe.cls = .ref C)
    (z : Q () ⟨h, gs, dr, tk, os⟩) : wpAny M A (checkBuiltinCall "KeyError.__init__" ⟨.ref e :: xs, []⟩) Q E ⟨h, gs, dr, tk, os⟩ := by
  have has := key_has (C := C) T (x := "KeyError") (b := true) (by decide +kernel)
  have star : ("KeyError" != "*") = true := by decide +kernel
  simp only [checkBuiltinCall, key_kind, key_split, key_row]
  repeat (first
    | (with_reducible refine wpAny_loadPart_at he ?_
       rw [hcls])
    | with_reducible refine wpAny_loadPart_at hC ?_
    | (with_reducible refine wpAny_isSubtype_exc hC ?_
       rw [has])
    | wp_step)
  refine wpAny_onRaise ?_
  have all : ∀ (a b : String) (n : Nat), Bind.check ⟨.positional, "*", "KeyError", .self, [⟨"args", .varPos, false⟩]⟩ a b n (List.map (fun x => x.fst) ({ pos := Value.ref e :: xs } : Args).kw) = pure () :=
    fun _ _ _ => check_star_args _ _ _ _ _ _
  rw [all]
  exact wpAny_pure z
theorem key_lookup {M : Model} {mN : Str → Option Value} {Q : Option Value → Shared → Prop} (T : OwnTail h keyMro bm) (hC : KeyCls h C nm q N bs bm hdct sn sub ab col dd k0 k1 k2 k3 k5) (hn : h.Ns N mN) (hni : mN "__init__" = none)
    (z : Q (some (.builtin "KeyError.__init__")) ⟨h, gs, dr, tk, os⟩) : wpAny M A (typeLookup (.ref C) "__init__") Q E ⟨h, gs, dr, tk, os⟩ :=
  wpAny_typeLookup_tail hC hn T key_mro key_init.lookup (by rw [hni]; exact z)
theorem key_type_call {mN : Str → Option Value} {xs : List Value} {Q : Fin → Shared → Prop} (T : OwnTail h keyMro bm) (hC : KeyCls h C nm q N bs bm hdct sn sub ab col dd k0 k1 k2 k3 k5) (hn : h.Ns N mN) (hni : mN "__init__" = none) (hx : xs.length ≤ sizeLine)
    (z : ∀ h' e, Heap.MadeExcOf h h' e (.ref C) xs → Q (.done (.ret (.ref e))) ⟨h', gs, dr, tk, os⟩) : wpAny (model prog w) A (Builtin.«type.__call__» ⟨.ref C :: xs, []⟩) Q E ⟨h, gs, dr, tk, os⟩ := by
  have F := PySem.F.excBase_LookupError
  have hrest := hx
  repeat (first | with_reducible refine wpAny_loadPart_at hC ?_ | with_reducible refine wpAny_madeBy_exc hC ?_ | wp_step)
  refine codeAny_call_builtin_code (Code.quiet_builtin _ F.quiet) (key_newcheck T hC (key_new T hC hx ?_))
  show wpAny _ _ _ _ _ _
  have up : ∀ b o, h.get? b = some o → ((h.push (argsObj xs)).push (rawExc h C)).get? b = some o := fun b o e => Heap.get?_push_of_some _ (Heap.get?_push_of_some _ e)
  have C1 := up _ _ hC
  have N1 : ((h.push (argsObj xs)).push (rawExc h C)).Ns N mN := by
    obtain ⟨o, es, ep, e, r⟩ := hn
    exact ⟨o, es, ep, up _ _ e, r⟩
  have at1 : ((h.push (argsObj xs)).push (rawExc h C)).get? (h.objs.size + 1) = some (rawExc h C) := by heap_get
  have self : (Value.ref C :: bm).contains (.ref C) = true := by simp
  have T1 := T.keeps up
  unfold isInstance
  repeat (first
    | with_reducible refine wpAny_loadPart_at at1 ?_
    | (with_reducible refine wpAny_isSubtype_exc C1 ?_
       rw [self])
    | wp_step)
  show wpAny _ _ (typeLookup (.ref C) _) _ _ _
  refine key_lookup T1 C1 N1 hni (wpAny_holding (wpAny_bind (wpAny_of_eq (key_init.bind _) ?_)))
  refine wpAny_bind (wpAny_call (codeAny_call_builtin key_init.plain key_entry (key_initcheck T1 C1 at1 rfl ?_)))
  wp_walk
  refine z _ _ ⟨?_, Heap.get?_none_of_le (Nat.le_succ _), h.objs.size + 2, ?_, Heap.get?_none_of_le (by omega), ?_⟩
  · intro b o hb
    rw [Heap.get?_update_other _ _ (Nat.ne_of_gt (Nat.lt_succ_of_lt (Heap.lt_size hb)))]
    exact Heap.get?_push_of_some _ (up b o hb)
  · rw [Heap.get?_update_self _ (Heap.get?_push_of_some _ at1) rfl]
    simp only [Heap.size_push]
    rfl
  · have ne : h.objs.size + 1 ≠ h.objs.size + 2 := by omega
    rw [Heap.get?_update_other _ _ ne]
    exact Heap.get?_push_at (by simp only [Heap.size_push]) rfl
theorem key_call {mN : Str → Option Value} {xs : List Value} {Q : Value → Shared → Prop} (T : OwnTail h keyMro bm) (hC : KeyCls h C nm q N bs bm hdct sn sub ab col dd k0 k1 k2 k3 k5) (hn : h.Ns N mN) (hni : mN "__init__" = none) (hx : xs.length ≤ sizeLine)
    (z : ∀ h' e, Heap.MadeExcOf h h' e (.ref C) xs → Q (.ref e) ⟨h', gs, dr, tk, os⟩) : wpAny (model prog w) A (call (.ref C) xs) Q E ⟨h, gs, dr, tk, os⟩ := by
  have l1 := tc_lookup
  have l2 := tc_bind (.ref C)
  have ht : (⟨h, gs, dr, tk, os⟩ : Shared).TypeIs (.ref C) "type" := ⟨_, hC, rfl⟩
  refine wpAny_call (codeAny_of_tree ?_)
  show wpAny _ _ (callAny (.ref C) _) _ _ _
  repeat (any_goals (first | assumption | with_reducible refine wpAny_loadPart_at hC ?_ | wp_step))
  exact ⟨rfl, codeAny_call_builtin_at (Code.quiet_builtin _ (by decide +kernel)) entry_typeCall (wpAny_check_type_call_sub hC (key_type_call T hC hn hni hx z))⟩
end
end PySem
namespace DL
open PySem PySem.Spec L2
open PyProof.Rows hiding St
/-- .. over KeyError -/
def XC.key {K : PySem.W.Frag} {mg : Str → Option Value} {c : Str} {C : Addr} (q : PySem.W.excIn K C keyMro "LookupError.__new__" = true) (g0 : PySem.W.nsIn K mainGlobals c = some (some (.ref C))) (g : mg c = some (.ref C))
    (kp : PySem.W.keepIn K (.ref C) = true) (sub : PySem.W.subIn K (.ref C) (.type "BaseException") = some true) (ty : PySem.W.typeIn K (.ref C) = some (.type "type")) : XC K mg c := by
  refine ⟨C, g0, fun X hK hm e es t p pos hg ha hdb he hpl => ?_⟩
  subst hK; subst hm
  intro pins s σ H Q I wish
  refine wpAny_Call_Name_kw (ld_glob I hg g ?_ hdb)
  refine PySem.W.callWith_K (h₀ := X.base) I.ok.mod.kin kp (thn (ha.run pos pins s σ H _ I wish) fun us s1 res => ?_) he hpl
  obtain ⟨vs, H1, I1, r1, hz, q1⟩ := res
  refine ⟨I1.kIn, ?_⟩
  show wpAny _ _ (call (.ref C) us) _ _ _
  obtain ⟨bm, N, nm, qn, bs, hdct, sn, sb, ab, col, dd, k0, k1, k2, k3, k5, mN, hC, hN, hni, T⟩ := exc_obj I1.kIn q
  exact key_call T hC hN hni (by rw [← r1.length]; exact hz) fun h' e hm => mk_of I1 hm (raises_own sub ty) q1 (I1.hok.gone hm.new)
end DL

set_option maxHeartbeats 1000000
namespace DL
open PySem PySem.Spec L2
open PyProof.Rows hiding St

/-! ### len(o), o of a class with its own __len__ -/
theorem special_def {M : Model} {A : Around} {E : Value → Shared → Prop} {s : Shared} {K : PySem.W.Frag} {self : Value} {name : PySem.Str} {f : Addr} {args : List Value} {Q : Option Value → Shared → Prop} (X : K.In s.heap) (hf : PySem.W.isFn K (.ref f) = true)
    (sp : PySem.W.Looks M s.heap (specialOf self name) (some (.ref f))) (hc : wpAny M A (call (.ref f) (self :: args)) (fun v => Q (some v)) E s) : wpAny M A (callSpecial? self name args) Q E s := by
  have ty : PySem.W.Looks M s.heap (typeOf (.ref f)) (.type "function") := PySem.W.looks_typeIn X (by unfold PySem.W.isFn at hf; exact beq_iff_eq.mp hf)
  obtain ⟨h, g, d, t, os⟩ := s
  simp only [callSpecial?]
  refine wpAny_bind (sp.here ?_)
  refine wpAny_holding (wpAny_bind ?_)
  unfold bindSpecial
  refine wpAny_bind (ty.here ?_)
  rw [if_pos (by decide)]
  exact wpAny_pure (wpAny_bind (wpAny_mono hc (fun v s' z => wpAny_pure z) fun _ _ z => z))
theorem len_def {prog : Program} {w : World} {A : Around} {E : Value → Shared → Prop} {s : Shared} {K : PySem.W.Frag} {x C f : Addr} {ox : Obj} {Q : Value → Shared → Prop} (X : K.In s.heap) (hx : s.heap.get? x = some ox) (hcls : ox.cls = .ref C)
    (hl : PySem.W.findIn K (.ref C) "__len__" = some (some (.ref f))) (hf : PySem.W.isFn K (.ref f) = true)
    (hc : wpAny (model prog w) A.in1 (call (.ref f) [.ref x]) (fun r s' => ∃ n u, r = .int n u ∧ 0 ≤ n ∧ n < 2 ^ 63 ∧ Q (.int n s'.toks) { s' with toks := s'.toks + 1 }) E s) : wpAny (model prog w) A (call (.builtin "len") [.ref x]) Q E s := by
  have sp : PySem.W.Looks (model prog w) s.heap (specialOf (.ref x) "__len__") (some (.ref f)) := (looks_cls hx hcls).andThen (PySem.W.looks_findIn X hl)
  refine Calls.call_function_entry kind_len plain_len entry_len (args_len1 _) ?_
  unfold Builtin.«len»
  refine wpAny_bind (m := oneArg "len" _) (wpAny_pure ?_)
  refine wpAny_bind (m := callSpecial? (.ref x) (PySem.Str.ofString "__len__")) (special_def X hf sp (wpAny_mono hc (fun r s' got => ?_) fun _ _ z => z))
  obtain ⟨n, u, rfl, lo, hi, q⟩ := got
  refine wpAny_bind (wpAny_holding (wpAny_pure ?_))
  refine wpAny_bind (wpAny_letGo ?_)
  show wpAny _ _ (if n < 0 then _ else _) _ _ _
  rw [if_neg (by omega)]
  show wpAny _ _ (if n ≥ 2 ^ 63 then _ else _) _ _ _
  rw [if_neg (by omega)]
  exact wpAny_bind (wpAny_mkInt (wpAny_pure ⟨_, rfl, q⟩))
@[simp] def lenOE (nm : Str) (sem : List D → MS → Res D) (fo : Env → MS → Res D) (env : Env) (ms : MS) : Res D := (fo env ms).bind fun o ms1 => match objOf nm ms1 o with
  | some _ => (noExc (sem [o] ms1)).bind fun d ms2 => match d with
    | .int n => if 0 ≤ n ∧ n < 9223372036854775808 then .ok (.int n) ms2 else .bad
    | _ => .bad
  | none => .bad
section
variable {X : Cx} {E : EW} {k : Nat} {nm : Str} {ps : List Str} {p pos : Pos} {o : Expr} {fo : Env → MS → Res D} {sem : List D → MS → Res D}
/-- the call's wish -/
def rLenO (X : Cx) (C f : Addr) (sp : Sp) : List V → Hp → VK → Prop := fun xs H Q => ∃ (a dx : Addr) (fs : List (Str × V)), xs = [.ref a] ∧ H a = some (.ins C dx fs) ∧ sp [.ref a] H (fun v H' => ∃ n : Int, v = .int n ∧ 0 ≤ n ∧ n < 9223372036854775808 ∧ Q (.int n) H') E0
theorem call_lenO {C f : Addr} {fd : FuncData} {sp : Sp} (F : FnOk X.prog X.w X.K X.mg X.base CX0 k f fd ps sp) (hr : Room (k + 1) X.A) (me : Meth X.K C "__len__" f) (hb : Binds X.K fd ps []) : CallR X (.builtin "len") (rLenO X C f sp) := by
  intro pins s σ H xs us Q I r h
  obtain ⟨a, dx, fs, rfl, hH, h⟩ := h
  cases r with
  | cons rx rr =>
    cases rr
    cases rx
    have at_ := (I.hok a _ hH).2.2.2.1
    refine len_def I.kIn at_ rfl me.at_ me.fn ?_
    have hl : [Value.ref a].length = ps.length := by have := F.len _ _ _ _ h; simpa using this
    have b := hb s [.ref a] I.kIn (by rw [List.append_nil]; exact hl)
    rw [List.append_nil] at b
    refine wpAny_call (codeAny_mono (F.run X.A.in1 X.stack s H ⟨[.ref a], []⟩ [.ref a] [.ref a] _ E0 hr.in1 I.env0.in1 b (.cons rfl .nil) h) fun r s' got => ?_)
    cases r with
    | error e => exact (show False from got).elim
    | ok fl =>
      cases fl with
      | next => exact False.elim got
      | brk => exact False.elim got
      | cont => exact False.elim got
      | ret u =>
        obtain ⟨v, H', I', rv, n, rfl, lo, hi, q⟩ := I.after got
        obtain ⟨t, rfl⟩ := rv
        exact ⟨n, t, rfl, lo, by simpa using hi, .int n, H', I'.kept (t' := s'.toks + 1) fun _ _ z => z, ⟨_, rfl⟩, q⟩
theorem d_lenO (C : CalM X.prog X.w X.K X.mg X.base k nm "__len__" ps sem) (hr : Room (k + 1) X.A) (ho : DE X E o fo) (hg : Gl X "len") (hm : X.mg "len" = none)
    (he : starEach [o] X.env = (false, eval o X.env) :: starEach [] X.env := by rfl) (hpl : (backTo pos (starEach [] X.env)).any (·.1) = false := by rfl) (hn : ps.length = 1 := by rfl) : DE X E (.Call (.Name "len" p) [o] [] pos) (lenOE nm sem fo) :=
  PE.conv (pe_callB (call_lenO C.ok hr C.me C.b) hg hm (by decide +kernel) (a_cons ho a_nil he) (by decide) (by decide) he hpl) fun σ H Q ⟨ι, env, ms, r, ev, o⟩ => by
    refine ⟨ι, env, ms, r, ev, ?_⟩
    unfold consA
    unfold lenOE at o
    cases z : fo env ms with
    | bad => rw [z] at o; exact o
    | exc y ms1 => rw [z] at o; exact o
    | ok d ms1 =>
      rw [z] at o
      simp only [bind_ok] at o
      simp only [bind_ok, nilA]
      intro vs ι1 H1 R1 l1 rv
      obtain ⟨v, rfl, rd⟩ := rv.one
      cases c : objOf nm ms1 d with
      | none => simp only [c] at o; exact o.elim
      | some y =>
        obtain ⟨j, fs⟩ := y
        simp only [c] at o
        obtain ⟨_, a, dx, vs', rfl, hn', h1, hk⟩ := Rel.objOf C.c R1 c rd
        refine ⟨a, dx, vs', rfl, h1, ι1, ms1, [d], R1, ⟨_, [], rfl, rd, rfl⟩, hn.symm ▸ rfl, ?_⟩
        cases q : sem [d] ms1 with
        | bad => rw [q] at o; exact o.elim
        | exc x ms2 => rw [q] at o; exact o.elim
        | ok r2 ms2 =>
          rw [q] at o
          simp only [noExc, bind_ok] at o
          intro b ι2 H2 R2 l2 rb
          cases r2 with
          | int n =>
            dsimp only at o
            by_cases hz : 0 ≤ n ∧ n < 9223372036854775808
            · rw [if_pos hz] at o
              have e : b = .int n := rb
              exact ⟨n, e, hz.1, hz.2, o _ ι2 H2 R2 (l1.trans l2) rfl⟩
            · rw [if_neg hz] at o; exact o.elim
          | _ => exact o.elim
/-! ### xs.remove(k) of a list of numbers -/
@[simp] def remM (fo fe : Env → MS → Res D) (env : Env) (ms : MS) : Res D := (fo env ms).bind fun o ms1 => match cellL ms1 o with
  | none => .bad
  | some _ => (fe env ms1).bind fun d ms2 => match cellL ms2 o, d with
    | some (n, ds), .int k => match intsOf ds with
      | some ns => if k ∈ ns then .ok .non (ms2.set n (.lst ((ns.erase k).map .int))) else .bad
      | none => .bad
    | _, _ => .bad
variable {e : Expr} {fe : Env → MS → Res D} {apos : Pos}
theorem d_remove (ho : DE X E o fo) (he : DE X E e fe) (hbase : attributeBase o "remove" X.env (eval o X.env) = eval o X.env := by rfl)
    (hfew : (((backTo pos (starEach [e] X.env)).all fun x => !x.1) && (backToKw pos (keywordEach [] X.env)).all (·.1.isSome) && decide ([e].length + ([] : List Keyword).length + (if ([] : List Keyword).isEmpty then 0 else 1) < 30)) = true := by rfl)
    (hline : (apos.endLine == pos.line) = true := by rfl) (hs : starEach [e] X.env = (false, eval e X.env) :: starEach [] X.env := by rfl) (hplain : (backTo pos (starEach [] X.env)).any (·.1) = false := by rfl) :
    DE X E (.Call (.Attribute o "remove" apos) [e] [] pos) (remM fo fe) :=
  PE.conv (pe_bm PySem.F.plainAttrs_list PySem.F.slot_list_remove PySem.F.type_list_remove mt_remove ho (a_cons he a_nil hs) (hbase := hbase) (hfew := hfew) (hline := hline) (hs := hs) (hplain := hplain)) fun σ H Q ⟨ι, env, ms, r, ev, o⟩ => by
    refine tR_seq r ev o fun ι1 H1 ms1 d x B o1 => ?_
    cases q1 : cellL ms1 d with
    | none => simp only [q1] at o1; exact o1.elim
    | some z =>
      obtain ⟨n, ds⟩ := z
      simp only [q1] at o1
      obtain ⟨p, xs, rfl, hn, h1, h2⟩ := B.rel.cellL q1 B.r
      refine ⟨seq_tyL h1, ι1, env, ms1, B.rel, B.env, ?_⟩
      unfold consA
      cases q2 : fe env ms1 with
      | bad => simp only [q2] at o1; exact o1
      | exc y ms2 => simp only [q2] at o1; exact o1
      | ok y ms2 =>
        simp only [q2, bind_ok] at o1
        simp only [bind_ok, nilA]
        intro vs ι2 H2 R2 l2 rv
        obtain ⟨v, rfl, ry⟩ := rv.one
        cases q3 : cellL ms2 d with
        | none => simp only [q3] at o1; exact o1.elim
        | some z =>
          obtain ⟨m, es⟩ := z
          simp only [q3] at o1
          cases y with
          | int k =>
            dsimp only at o1
            obtain ⟨p', ys, e1, hm, h3, h4⟩ := R2.cellL q3 (Rp.mono l2 _ _ B.r)
            cases e1
            cases q4 : intsOf es with
            | none => simp only [q4] at o1; exact o1.elim
            | some ns =>
              simp only [q4] at o1
              rw [intsOf_eq q4] at h4
              have hys := Rps.ints h4
              subst hys
              by_cases hk : k ∈ ns
              · rw [if_pos hk] at o1
                obtain ⟨j, j1, j2, j3, j4⟩ := first_at hk
                have w := Le.write (o := .lst ((ns.erase k).map V.int)) R2 hm
                have ek : v = .int k := ry
                refine ⟨p, ns, k, j, rfl, by rw [ek], h3, j2, j3, ?_⟩
                rw [j4]
                exact o1 _ ι2 _ (R2.write hm ⟨_, upd_same, Rps.ofInts⟩) (l2.trans w) rfl
              · rw [if_neg hk] at o1; exact o1.elim
          | _ => exact o1.elim
end
end DL

set_option maxHeartbeats 1000000
namespace PySem
/-! ### own exceptions with a field, over LookupError or RuntimeError -/
/-- what is wanted of the built-in class -/
structure BaseX (B newId initId : String) (tail : List Value) : Prop where
  F : ExcBaseFacts B newId initId tail
  pass : ∀ self, refuseLoop self "__setattr__" tail = pure ()
  obj : tail.contains (.type "object") = true
  ty : typeOf (.type B) = pure (.type "type")
  stub : Manifest.isStub B = false
  hand : PySem.W.handedIn (.builtin initId) = true
theorem baseX_lookup : BaseX "LookupError" "LookupError.__new__" "LookupError.__init__" [.type "LookupError", .type "Exception", .type "BaseException", .type "object"] where
  F := PySem.F.excBase_LookupError
  pass := fun self => by kernel_rfl
  obj := by decide +kernel
  ty := by kernel_rfl
  stub := by decide +kernel
  hand := by decide +kernel
theorem baseX_runtime : BaseX "RuntimeError" "RuntimeError.__new__" "RuntimeError.__init__" [.type "RuntimeError", .type "Exception", .type "BaseException", .type "object"] where
  F := PySem.F.excBase_RuntimeError
  pass := fun self => by kernel_rfl
  obj := by decide +kernel
  ty := by kernel_rfl
  stub := by decide +kernel
  hand := by decide +kernel
section
open Builtin Builtin.ObjectAttr PySem.W PySem.Calls PyProof.Rows
variable {prog : Program} {w : World} {A : Around} {R : Result → Shared → Prop} {hp : Heap} {gs : Array GenState} {dr : Drawn} {tk : Nat} {os : OsState} {B newId initId : String} {tail : List Value}
/-- the first field of such an exception: it gets its dict -/
theorem first_field {K : W.Frag} {name : Str} {nt : Tok} {v : Value} {x C : Addr} {fv : Array Value} {cd : ClassData} (BX : BaseX B newId initId tail) (X : K.In hp) (hx : hp.get? x = some { cls := .ref C, data := .fields fv }) (hcd : W.clsIn K C = some cd)
    (hm : cd.mro = .ref C :: tail) (hh : cd.hasDict = true) (ha : W.findIn K (.ref C) name = some none)
    (z : ∀ h' tk' dx, (∀ b o, b ≠ x → hp.get? b = some o → h'.get? b = some o) → hp.objs.size ≤ dx → dx ≠ x → h'.get? x = some { cls := .ref C, dict := some dx, data := .fields fv } →
      h'.Ns1 dx (fun y => if y = name then some v else none) → R (.ok (.ret .none)) ⟨h', gs, dr, tk', os⟩) :
    codeAny (model prog w) A (.call (.builtin "object.__setattr__") ⟨[.ref x, .str name nt, v], []⟩) R ⟨hp, gs, dr, tk, os⟩ := by
  have I : W.InstAt hp x { cls := .ref C, data := .fields fv } C none := ⟨hx, rfl, rfl, trivial⟩
  have store := F.store_object
  have hob : cd.mro.contains (.type "object") = true := by rw [hm, List.contains_cons, BX.obj, Bool.or_true]
  have hem : cd.mro.isEmpty = false := by rw [hm]; rfl
  have far : x ≠ hp.objs.size := Nat.ne_of_lt (Heap.lt_size hx)
  have inst : W.Looks (model prog w) hp (isInstance (.ref x) (.type "object")) true := I.type.andThen (W.looks_mroIn X (by unfold W.mroIn; rw [hcd, Option.bind_some, if_neg (by rw [hem]; decide), hob]))
  refine codeAny_call_builtin store.slot.plain store.entry ?_
  refine @W.check_slot (model prog w) _ _ ⟨hp, gs, dr, tk, os⟩ "object.__setattr__" "object" "__setattr__" (.ref x) [.str name nt, v] [] _ store.kind store.split inst (store.args (.ref x) (.str name nt) v) ?_
  have hmr : W.Looks (model prog w) hp (mroOf (.ref C)) cd.mro := (W.looks_clsIn X hcd).andThen .now
  have taker : W.Looks (model prog w) hp (storeTaker? none) none := .now
  have data : W.Looks (model prog w) hp (classData C) cd := W.looks_clsIn X hcd
  rw [W.osa_eq, refuse_eq]
  refine wpAny_bind (wpAny_bind (I.type.at (wpAny_bind (hmr.at ?_))))
  rw [hm, refuseLoop_ref, BX.pass]
  refine wpAny_pure (wpAny_bind (I.type.at ?_))
  refine wpAny_bind ((W.looks_findIn X ha).at (wpAny_bind (taker.at ?_)))
  show wpAny _ _ (storeInOwnDict (.ref x) (.ref C) (.str name nt) name v false) _ _ _
  obtain ⟨nm, bs, mro, ns, qn, hd, sn, sb, ab, col, del⟩ := cd
  dsimp only at hh
  subst hh
  unfold storeInOwnDict ownDictForStores
  repeat (first
    | with_reducible refine HandSPX.store_in_new ?_ ?_
    | with_reducible refine wpAny_loadPart_at hx ?_
    | with_reducible refine data.at ?_
    | wp_step)
  · refine ⟨_, #[], _, (Heap.get?_update_ne _ _ _ _ far.symm).trans (Heap.get?_push_at rfl rfl), rfl, ?_, fun _ => rfl⟩
    exact fun e he => absurd he (by simp)
  · intro h' tk' hn' same
    have hx2 : (hp.push { cls := .type "dict", data := .dict #[] }).get? x = some { cls := .ref C, data := .fields fv } := Heap.get?_push_of_some _ hx
    refine z h' tk' hp.objs.size ?_ (Nat.le_refl _) far.symm ?_ hn'
    · intro b o hb ho
      exact (same.2 b (Nat.ne_of_lt (Heap.lt_size ho))).trans ((Heap.get?_update_ne _ _ _ _ hb).trans (Heap.get?_push_of_some _ ho))
    · exact (same.2 x far).trans (Heap.get?_update_self _ hx2 rfl)
end
end PySem
namespace DL
open PySem PySem.Spec L2
open PyProof.Rows hiding St
/-- what the written part says of the class -/
structure OwnX (K : PySem.W.Frag) (newId : String) (tail : List Value) (C : Addr) : Prop where
  cls : ∃ nm q N bs sn sub ab col dd k0 k1 k2 k3 k5, K.lookup C = some (excClassObj nm q C N bs tail true sn sub ab col dd k0 k1 k2 k3 k5 newId)
  sa : PySem.W.findIn K (.ref C) "__setattr__" = some (some (.builtin "object.__setattr__"))
  exC : PySem.W.subIn K (.ref C) (.type "BaseException") = some true
  tyC : PySem.W.typeIn K (.ref C) = some (.type "type")
  kC : PySem.W.keepIn K (.ref C) = true
/-- .. as a check -/
def ownXIn (K : PySem.W.Frag) (newId : String) (tail : List Value) (C : Addr) : Bool := match K.lookup C with
  | some ⟨.type "type", _, .cls cd, sl⟩ => (match cd.mro, sl.toList with
    | .ref C' :: bm, [_, _, _, _, some (.builtin n), _] => C' == C && n == newId && !cd.hasDel && cd.hasDict && bm == tail
    | _, _ => false)
  | _ => false
theorem ownX_of {K : PySem.W.Frag} {newId : String} {tail : List Value} {C : Addr} (q : ownXIn K newId tail C = true) : ∃ nm q N bs sn sub ab col dd k0 k1 k2 k3 k5, K.lookup C = some (excClassObj nm q C N bs tail true sn sub ab col dd k0 k1 k2 k3 k5 newId) := by
  unfold ownXIn at q
  split at q
  · rename_i dd cd sl ho
    split at q
    · rename_i C' bm k0 k1 k2 k3 n k5 hm hs
      simp only [Bool.and_eq_true, beq_iff_eq, Bool.not_eq_true'] at q
      obtain ⟨⟨⟨⟨rfl, rfl⟩, hdel⟩, hdct⟩, rfl⟩ := q
      obtain ⟨nm, bs, mro, ns, qn, hd, sn, sb, ab, col, del⟩ := cd
      dsimp only at hm hdel hdct
      subst hm hdel hdct
      obtain ⟨l⟩ := sl
      simp only at hs
      subst hs
      exact ⟨nm, qn, ns, bs, sn, sb, ab, col, dd, k0, k1, k2, k3, k5, ho⟩
    · cases q
  · cases q
theorem tail_has {C : Addr} {tail : List Value} (X : String) : tail.contains (.type X) = tail.contains (.type X) := rfl
section
variable {X : Cx} {pins : List (Addr × Obj)} {σ : St} {H : Hp} {s : Shared} {a C : Addr} {f : Str} {y : V} {u : Value} {Q : Unit → Shared → Prop} {E : Value → Shared → Prop} {A : Around} {B newId initId : String} {tail : List Value}
/-- self.f = y, the first one -/
theorem field_first (BX : BaseX B newId initId tail) (T : OwnX X.K newId tail C) (I : Inv X pins σ H s) (e : H a = some (exo a C none)) (hno : PySem.W.findIn X.K (.ref C) f = some none) (ry : RelV y u)
    (z : ∀ dx s', H dx = none → dx ≠ a → Inv X pins σ (upd (upd H dx (exd dx [(f, y)])) a (exo a C (some dx))) s' → Q () s') : wpAny (model X.prog X.w) A (setAttr (.ref a) f u) Q E s := by
  obtain ⟨nm, q, N, bs, sn, sub, ab, col, dd, k0, k1, k2, k3, k5, hC⟩ := T.cls
  have cl : PySem.W.clsIn X.K C = some { name := nm, bases := bs, mro := .ref C :: tail, ns := N, qualname := q, hasDict := true, slotNames := sn, subclasses := sub, abstract := ab, collection := col, hasDel := false } := by
    unfold PySem.W.clsIn
    rw [hC] <;> rfl
  obtain ⟨t1, ho⟩ := exo_at I.hok e
  obtain ⟨hp, g, d, t, os⟩ := s
  refine PySem.W.set_plain I.kIn (ox := { cls := .ref C, dict := none, data := .fields #[.ref t1, .none, .none, .none, .bool false, .none] }) (od := none) ⟨ho, rfl, rfl, trivial⟩ T.sa ?_
  refine PySem.first_field BX I.kIn ho cl rfl rfl hno fun h' tk' dx k dn dne hx hn => ?_
  have nodx : H dx = none := I.hok.fresh dn
  have far : ∀ {b : Addr} {o : Obj}, hp.get? b = some o → b ≠ dx := fun {b o} q => Nat.ne_of_lt (Nat.lt_of_lt_of_le (Heap.lt_size q) dn)
  have nota : ∀ {b : Addr}, H b = none → b ≠ a := fun {b} n w => by
    rw [w, e] at n
    cases n
  have un : Un X.fs [] H (upd (upd H dx (exd dx [(f, y)])) a (exo a C (some dx))) hp h' := by
    constructor
    · exact fun b o q n _ _ => k b o (nota n) q
    · exact fun b o q n _ _ => ⟨o.slots, k b o (nota n) q⟩
    · intro b o q n _
      rw [upd_ne (nota n), upd_ne (far q)]; exact n
    · intro b o q _
      by_cases hb : b = a
      · exact ⟨_, by rw [hb]; exact hx⟩
      · exact ⟨o, k b o hb q⟩
    · intro b xs q
      rw [upd_ne (at_ne e q exo_tup), upd_ne (ne_of_none q nodx)]; exact q
    · intro b o v q
      rw [upd_ne (at_ne e q exo_frz), upd_ne (ne_of_none q nodx)]; exact q
    · intro b ps q
      exact ⟨#[], by rw [upd_ne (at_ne e q exo_tbl), upd_ne (ne_of_none q nodx), q]; simp⟩
  refine z dx _ nodx dne (I.un (t' := tk') un fun b o q => ?_)
  by_cases hb : b = a
  · subst hb
    rw [upd_same] at q
    cases q
    exact exo_ok hx
  rw [upd_ne hb] at q
  by_cases hd : b = dx
  · subst hd
    rw [upd_same] at q
    cases q
    exact exd_ok hn (relO_put (fs := []) ry fun g => True.intro)
  rw [upd_ne hd] at q
  refine (I.hok b o q).stay (fun c v hc w => k c v ?_ w) (fun c hc => ?_) (fun c xs hc => ?_)
  · rcases hc with hc | hc
    · rw [hc]; exact hb
    · exact at_ne e hc exo_own
  · rw [upd_ne (at_ne e hc exo_own), upd_ne (ne_of_none hc nodx)]; exact hc
  · rw [upd_ne (at_ne e hc exo_tup), upd_ne (ne_of_none hc nodx)]; exact hc
/-- B.__init__(self, ..) -/
theorem base_init (BX : BaseX B newId initId tail) {us : List Value} {Q : Value → Shared → Prop} (T : OwnX X.K newId tail C) (I : Inv X pins σ H s) (e : H a = some (exo a C none)) (hl : us.length ≤ sizeLine) (z : ∀ s', Inv X pins σ H s' → Q .none s') :
    wpAny (model X.prog X.w) A (call (.builtin initId) (.ref a :: us)) Q E s := by
  obtain ⟨nm, q, N, bs, sn, sub, ab, col, dd, k0, k1, k2, k3, k5, hC⟩ := T.cls
  obtain ⟨t1, ho⟩ := exo_at I.hok e
  obtain ⟨hp, g, d, t, os⟩ := s
  refine wpAny_call (PySem.HandSPX.init_base BX.F (fun _ => rfl) (I.kIn _ _ hC) ho hl fun h' t2 k hx => ?_)
  have J := I.write (t' := t) (x := a) (e := a) (o := exo a C none) (by rw [e]; exact True.intro) (.inl rfl) k ⟨_, hx⟩ (exo_ok hx)
  have same : upd H a (exo a C none) = H := by
    funext b
    by_cases hb : b = a
    · rw [hb, upd_same, e]
    · rw [upd_ne hb]
  rw [same] at J
  exact z _ J
end
/-! readings and rules -/
def tInitB (K : PySem.W.Frag) (newId : String) (tail : List Value) (ta : TA) : TE := fun σ H Q => ta σ H fun vs H1 => ∃ (a C : Addr) (ws : List V), vs = .ref a :: ws ∧ ws.length ≤ 1000 ∧ OwnX K newId tail C ∧ H1 a = some (exo a C none) ∧ Q .non H1
def tField1 (K : PySem.W.Frag) (newId : String) (tail : List Value) (f : Str) (to te : TE) : TS := fun D σ H => te σ H fun y H1 => to σ H1 fun x H2 => ∃ a C : Addr, x = .ref a ∧ OwnX K newId tail C ∧ PySem.W.findIn K (.ref C) f = some none ∧
  H2 a = some (exo a C none) ∧ ∀ dx, H2 dx = none → dx ≠ a → D.nx σ (upd (upd H2 dx (exd dx [(f, y)])) a (exo a C (some dx)))
section
variable {X : Cx} {o e : Expr} {es : List Expr} {to te : TE} {ta : TA} {f bn : Str} {p p' p1 p2 pos : Pos} {B newId initId : String} {tail : List Value}
theorem pe_initB (BX : BaseX B newId initId tail) {pl : Sem Bool} (hg : Gl X bn) (hm : X.mg bn = none) (hbt : bootBuiltins bn = some (.type B)) (hnn : bn ≠ "__name__") (hdb : (bn == ("__debug__" : Str)) = false) (vV : PySem.W.findCls X.K (.type B) (.type "type") "__init__" = some (.val (.builtin initId))) (ha : PA X (e :: es) ta)
    (hc : eval (.Call (.Attribute (.Name bn p1) "__init__" p2) (e :: es) [] pos) X.env = (do
      let ov ← eval (.Name bn p1) X.env
      standAt p2.atName
      let (f, first) ← holding [ov] (getMethod ov "__init__" pl)
      callWith pos f first (backTo pos (starEach (e :: es) X.env)) (backToKw pos (keywordEach [] X.env))) := by rfl)
    (he : starEach (e :: es) X.env = (false, eval e X.env) :: starEach es X.env := by rfl) (hpl : (backTo pos (starEach es X.env)).any (·.1) = false := by rfl) :
    PE X (.Call (.Attribute (.Name bn p1) "__init__" p2) (e :: es) [] pos) (tInitB X.K newId tail ta) := by
  refine ⟨fun pins s σ H Q I wish => ?_⟩
  refine PySem.W.methodCall_KW (ld_blt I hg hm hbt ?_ hnn hdb) hc
  obtain ⟨m, fr⟩ := I.fr
  refine PySem.W.method_type fr I.ok.mod.kin BX.ty BX.stub vV BX.hand ?_
  show wpAny _ _ (callWith pos (Value.builtin initId) [] (backTo pos (starEach (e :: es) X.env)) []) _ _ _
  refine PyProof.Rows.callWith_method1 (thn (ha.run pos pins _ σ H _ (I.tok _) wish) fun us s1 got => ?_) he hpl
  obtain ⟨vs, H1, I1, r1, a, C, ws, ev, hl, T, ea, q⟩ := got
  subst ev
  cases r1 with
  | @cons _ u0 _ ur ra rw' =>
    obtain rfl : u0 = Value.ref a := ra
    refine base_init BX T I1 ea ?_ fun s' J => ⟨.non, H1, J, rfl, q⟩
    rw [← Paired.length rw', sizeLine_eq]
    omega
theorem ps_field1 (BX : BaseX B newId initId tail) (ho : PE X o to) (he : PE X e te) (hs : swapsWith e (some (.Attribute o f p')) pos.line X.env = pure false := by rfl) : PS X (.Assign [.Attribute o f p'] e pos) (tField1 X.K newId tail f to te) := by
  refine ⟨fun pins s σ H D I wish => ?_⟩
  refine plainObj_wpAny_Assign_Attribute (thn (he.run pins s σ H _ I wish) fun v s1 got => ?_) hs
  obtain ⟨y, H1, I1, r1, q1⟩ := got
  refine thn (ho.run pins s1 σ H1 _ I1 q1) fun u s2 got => ?_
  obtain ⟨x, H2, I2, r2, a, C, ex, T, hno, ea, q⟩ := got
  subst ex
  obtain rfl : u = Value.ref a := r2
  exact field_first BX T I2 ea hno r1 fun dx s' n ne J => ⟨σ, _, J, q dx n ne⟩
/-- C(e, ..), C's own __init__ keeping sp -/
theorem pmk_ownX (BX : BaseX B newId initId tail) {CX : CXT} {x : Str} {C fI : Addr} {k : Nat} {fd : FuncData} {ps : List Str} {sp : Sp} (T : OwnX X.K newId tail C) (iC : PySem.W.findIn X.K (.ref C) "__init__" = some (some (.ref fI))) (tI : PySem.W.typeIn X.K (.ref fI) = some (.type "function"))
    (F1 : FnOk X.prog X.w X.K X.mg X.base CX k fI fd ps sp) (hr : Room (k + 1) X.A) (hb : Binds X.K fd ps []) (hx : Passes CX X (fun _ _ _ => False)) (hg : Gl X x) (hm : X.mg x = some (.ref C)) (ha : PA X (e :: es) ta)
    (hdb : (x == ("__debug__" : Str)) = false := by decide) (he : starEach (e :: es) X.env = (false, eval e X.env) :: starEach es X.env := by rfl) (hpl : (backTo pos (starEach es X.env)).any (·.1) = false := by rfl) :
    PMk X (.Call (.Name x p) (e :: es) [] pos) (tMkO C sp [] ta) := by
  intro pins s σ H Q I wish
  obtain ⟨nm, q, N, bs, sn, sub, ab, col, dd, k0, k1, k2, k3, k5, hC⟩ := T.cls
  refine wpAny_Call_Name_kw (ld_glob I hg hm ?_ hdb)
  refine PySem.W.callWith_K (h₀ := X.base) I.ok.mod.kin T.kC (thn (ha.run pos pins s σ H _ I wish) fun us s1 got => ?_) he hpl
  obtain ⟨vs, H1, I1, r1, hz, q1⟩ := got
  refine ⟨I1.kIn, ?_⟩
  show wpAny _ _ (call (.ref C) us) _ _ _
  obtain ⟨hp, g, dr, tk, os⟩ := s1
  have new : H1 (hp.objs.size + 1) = none := I1.hok.fresh (Nat.le_succ _)
  have hq := q1 (hp.objs.size + 1) new
  rw [List.append_nil] at hq
  have up : ∀ b o, hp.get? b = some o → ((hp.push (PySem.W.kdv_tup us)).push (PySem.HandSPX.excO C hp.objs.size)).get? b = some o := fun b o e => Heap.get?_push_of_some _ (Heap.get?_push_of_some _ e)
  have at1 : ((hp.push (PySem.W.kdv_tup us)).push (PySem.HandSPX.excO C hp.objs.size)).get? (hp.objs.size + 1) = some (PySem.HandSPX.excO C hp.objs.size) := by heap_get
  have I2 := I1.laid (t' := tk) (a := hp.objs.size + 1) (o := exo (hp.objs.size + 1) C none) (h' := (hp.push (PySem.W.kdv_tup us)).push (PySem.HandSPX.excO C hp.objs.size)) up (Nat.le_succ _) (exo_ok at1)
  have r2 : Vals (V.ref (hp.objs.size + 1) :: vs) (Value.ref (hp.objs.size + 1) :: us) := .cons rfl r1
  have hl : (Value.ref (hp.objs.size + 1) :: us).length = ps.length := by
    rw [← r2.length]
    exact F1.len _ _ _ _ hq
  have few : us.length ≤ sizeLine := by
    rw [← Paired.length r1, sizeLine_eq]
    omega
  have bs2 := hb _ (Value.ref (hp.objs.size + 1) :: us) I2.kIn (by rw [List.append_nil]; exact hl)
  rw [List.append_nil] at bs2
  refine wpAny_call (PySem.HandSPX.call_own BX.F (fun _ => rfl) (I1.kIn _ _ hC) (PySem.W.looks_findIn I1.kIn iC) (fun self => PySem.W.bind_fn I1.kIn self tI) few ?_)
  refine codeAny_mono (F1.run _ X.stack _ _ ⟨Value.ref (hp.objs.size + 1) :: us, []⟩ (Value.ref (hp.objs.size + 1) :: us) _ _ (fun _ _ _ => False) (hr.make C us []) (I2.env0.make C us []) bs2 r2 hq) fun r s' got => ?_
  cases r with
  | error er => exact hx pins σ _ _ er s' I2 got
  | ok fl =>
    cases fl with
    | next => exact False.elim got
    | brk => exact False.elim got
    | cont => exact False.elim got
    | ret u =>
      obtain ⟨v, H2, os2, bare2, un2, hok2, rv, ev, d, fs, ea, ed, hd1, q2⟩ := got
      subst ev
      obtain ⟨h2, g2, d2, t2, os'⟩ := s'
      exact ⟨rv, mk_end (raises_own T.exC T.tyC) I1 (Nat.le_succ _) up un2 hok2 os2 bare2 ea ed hd1 q2⟩
end
end DL

set_option maxHeartbeats 1000000
namespace DL
open PySem PySem.Spec L2
open PyProof.Rows hiding St
/-! ### raise C(m), C with a field -/
/-- numbers whose text fits -/
def numFits (m : Int) : Prop := m.natAbs.log2 < 1920 ∧ (toString m : Str).length ≤ 1000
instance {m : Int} : Decidable (numFits m) := by unfold numFits; infer_instance
/-- what C's __init__ keeps -/
def spInit (K : PySem.W.Frag) (newId : String) (tail : List Value) (f : Str) : Sp := fun vs H Q _ => ∃ (a C : Addr) (m : Int), vs = [.ref a, .int m] ∧ numFits m ∧ OwnX K newId tail C ∧ PySem.W.findIn K (.ref C) f = some none ∧ H a = some (exo a C none) ∧
  ∀ dx, H dx = none → dx ≠ a → Q .non (upd (upd H dx (exd dx [(f, .int m)])) a (exo a C (some dx)))
structure CalXF (P : Program) (w : World) (K : PySem.W.Frag) (mg : Str → Option Value) (base : Heap) (k : Nat) (c f : Str) where
  C : Addr
  g0 : PySem.W.nsIn K mainGlobals c = some (some (.ref C))
  made : ∀ (X : Cx), X.prog = P → X.w = w → X.K = K → X.mg = mg → X.base = base → Room (k + 1) X.A → ∀ {e : Expr} {t : TA} {p pos : Pos}, Gl X c → PA X [e] t → (c == ("__debug__" : Str)) = false → starEach [e] X.env = (false, eval e X.env) :: starEach [] X.env →
    (backTo pos (starEach [] X.env)).any (·.1) = false → PMk X (.Call (.Name c p) [e] [] pos) (fun σ H Q => t σ H fun vs H1 => ∃ m : Int, vs = [.int m] ∧ numFits m ∧ ∀ dx, H1 dx = none → Q (.ref C) (some dx) (upd H1 dx (.xd [(f, .int m)])))
theorem made_xd {H1 : Hp} {a C dx : Addr} {o : HO} {fs : List (Str × V)} (na : H1 a = none) (ne : dx ≠ a) : upd (del (upd (upd (upd H1 a o) dx (exd dx fs)) a (exo a C (some dx))) a) dx (.xd fs) = upd H1 dx (.xd fs) := by
  funext b
  by_cases h1 : b = dx
  · rw [h1, upd_same, upd_same]
  · rw [upd_ne h1, upd_ne h1]
    by_cases h2 : b = a
    · rw [h2, del_same, na]
    · rw [del_ne h2, upd_ne h2, upd_ne h1, upd_ne h2]
/-- a reading by what follows of it -/
def tMore (t : TA) : TA := fun σ H Q => ∃ R : List V → Hp → Prop, t σ H R ∧ ∀ vs H1, R vs H1 → Q vs H1
theorem pa_more {X : Cx} {es : List Expr} {t : TA} (h : PA X es t) : PA X es (tMore t) := by
  refine ⟨fun pos pins s σ H Q I ⟨R, h1, h2⟩ => thn (h.run pos pins s σ H R I h1) fun us s1 got => ?_⟩
  obtain ⟨vs, H1, I1, r, q⟩ := got
  exact ⟨vs, H1, I1, r, h2 _ _ q⟩
def CalXF.mk' {P : Program} {w : World} {K : PySem.W.Frag} {mg : Str → Option Value} {base : Heap} {k : Nat} {c f : Str} {B newId initId : String} {tail : List Value} (BX : BaseX B newId initId tail) {C fI : Addr} {fd : FuncData} {ps : List Str}
    (g0 : PySem.W.nsIn K mainGlobals c = some (some (.ref C))) (g : mg c = some (.ref C)) (T : OwnX K newId tail C) (iC : PySem.W.findIn K (.ref C) "__init__" = some (some (.ref fI))) (tI : PySem.W.isFn K (.ref fI) = true) (hno : PySem.W.findIn K (.ref C) f = some none)
    (F1 : FnOk P w K mg base CX0 k fI fd ps (spInit K newId tail f)) (hb : Binds K fd ps []) : CalXF P w K mg base k c f := by
  refine ⟨C, g0, fun X hP hw hK hm hB hr e t p pos hg ha hdb he hpl => ?_⟩
  subst hP; subst hw; subst hK; subst hm; subst hB
  have tI' : PySem.W.typeIn X.K (.ref fI) = some (.type "function") := by unfold PySem.W.isFn at tI; exact beq_iff_eq.mp tI
  intro pins s σ H Q I wish
  refine pmk_ownX BX T iC tI' F1 hr hb pass0 hg g (pa_more ha) hdb he hpl pins s σ H Q I ⟨_, wish, fun vs H1 got => ?_⟩
  obtain ⟨m, rfl, hm, q⟩ := got
  refine ⟨by simp, fun a na => ⟨a, C, m, rfl, hm, T, hno, upd_same, fun dx h1 h2 => ?_⟩⟩
  rw [upd_ne h2] at h1
  refine ⟨rfl, dx, [(f, .int m)], upd_same, ?_, h1, ?_⟩
  · rw [upd_ne h2, upd_same]
  · rw [made_xd na h2]
    exact q dx h1
@[simp] def raiseF (c f : Str) (fe : Env → MS → Res D) : SF := fun env ms => (fe env ms).bind fun d ms1 => match d with
  | .int m => if numFits m then .exc ⟨c, some (f, m), env⟩ ms1 else .bad
  | _ => .bad
section
variable {X : Cx} {E : EW} {W : WX} {k : Nat} {e : Expr} {fe : Env → MS → Res D} {p pos pos' : Pos} {c f : Str}
theorem s_raiseF (T : CalXF X.prog X.w X.K X.mg X.base k c f) (tk : Takes X (WofE X.K E)) (hr : Room (k + 1) X.A) (he : DE X E e fe) (hc : X.calm = true := by rfl) (hg : Gl X c := by rfl) (hdb : (c == ("__debug__" : Str)) = false := by decide)
    (hs : starEach [e] X.env = (false, eval e X.env) :: starEach [] X.env := by rfl) (hpl : (backTo pos (starEach [] X.env)).any (·.1) = false := by rfl) : DS X E (.Raise (some (.Call (.Name c p) [e] [] pos)) none pos') (raiseF c f fe) :=
  PS.conv (ps_raise hc tk (T.made X rfl rfl rfl rfl rfl hr hg (pa_more (a_cons he a_nil hs)) hdb hs hpl)) fun σ H D ⟨ι, env, ms, r, ev, o⟩ => by
    refine ⟨fun vs H1 => ∃ m : Int, vs = [.int m] ∧ numFits m ∧ ∃ ι1 ms1, Rel X.K ι1 H1 ms1 ∧ EnvOk X.K ι1 H1 env σ ∧ ∀ ι2 H2, Rel X.K ι2 H2 ms1 → Le ι1 H1 ι2 H2 → E ⟨c, some (f, m), env⟩ ι2 H2, ?_, fun vs H1 got => ?_⟩
    · refine ⟨ι, env, ms, r, ev, ?_⟩
      unfold consA
      unfold raiseF at o
      cases z : fe env ms with
      | bad => rw [z] at o; exact o
      | exc y ms1 => rw [z] at o; exact o
      | ok d ms1 =>
        rw [z] at o
        simp only [bind_ok] at o
        simp only [bind_ok, nilA]
        intro vs ι1 H1 R1 l1 rv
        obtain ⟨v, rfl, rd⟩ := rv.one
        cases d with
        | int m =>
          dsimp only at o
          by_cases hm : numFits m
          · rw [if_pos hm] at o
            have ev2 : v = .int m := rd
            exact ⟨m, by rw [ev2], hm, ι1, ms1, R1, ev.mono l1, fun ι2 H2 R2 l2 => o ι2 H2 R2 (l1.trans l2)⟩
          · rw [if_neg hm] at o; exact o.elim
        | _ => exact o.elim
    · obtain ⟨m, rfl, hm, ι1, ms1, R1, ev1, q⟩ := got
      refine ⟨m, rfl, hm, fun dx n => ?_⟩
      exact ⟨⟨c, some (f, m), env⟩, ι1, ⟨⟨dx, rfl, upd_same⟩, T.C, rfl, T.g0⟩, ev1.mono (Le.new R1 n), q ι1 _ (R1.new n) (Le.new R1 n)⟩
end
/-- self.__init__ as it is written: the base's, then the field -/
theorem init_read {K : PySem.W.Frag} {newId : String} {tail : List Value} {f pre post x y : Str} (hl : pre.length + post.length ≤ 1000000) {vs : List V} {H : Hp} {Q : VK} {E : XK} (h : spInit K newId tail f vs H Q E) :
    tSeq (tDrop (tInitB K newId tail (tCons (tVar 0) (tCons (fun σ H Q => tJs [tC (.str pre), tFmt (tVar 1), tC (.str post)] Str.empty σ H fun out H1 => Q (.str out) H1) tNil)))) (tField1 K newId tail f (tVar 0) (tVar 1)) { nx := fun _ H' => Q .non H', rt := Q } (start [x, y] vs) H := by
  obtain ⟨a, C, m, rfl, hm, T, hno, ha, q⟩ := h
  have hz : (pre ++ (toString m : Str)).length ≤ sizeLine := by
    rw [Str.length_append, sizeLine_eq]; have := hm.2; omega
  have hz2 : (pre ++ (toString m : Str) ++ post).length ≤ sizeLine := by
    rw [Str.length_append, Str.length_append, sizeLine_eq]; have := hm.2; omega
  have e0 : ∀ z : Str, Str.empty ++ z = z := fun z => by first | rfl | exact Str.empty_append z | (apply Str.ext; simp [Str.empty]) | (cases z; rfl)
  refine ⟨.ref a, rfl, pre, rfl, ?_, .int m, rfl, .inr ⟨m, rfl, hm.1, (toString m : Str), rfl, ?_, post, rfl, ?_, ?_⟩⟩
  · rw [e0, sizeLine_eq]; omega
  · rw [e0]; exact hz
  · rw [e0]; exact hz2
  · refine ⟨a, C, _, rfl, by simp, T, ha, .int m, rfl, .ref a, rfl, a, C, rfl, T, hno, ha, fun dx h1 h2 => q dx h1 h2⟩
/-! ### e.f of a kept exception -/
structure XFT (K : PySem.W.Frag) (f : Str) (L : List Str) : Prop where
  hit : ∀ c, c ∈ L → ∃ C, PySem.W.nsIn K mainGlobals c = some (some (.ref C)) ∧ XfC K C ∧ PySem.W.findIn K (.ref C) f = some none
@[simp] def xfldE (L : List Str) (f : Str) (fo : Env → MS → Res D) (env : Env) (ms : MS) : Res D := (fo env ms).bind fun d ms1 => match d with
  | .ptr n => match ms1[n]? with
    | some (.exn c (some (g, i))) => if c ∈ L ∧ g = f then .ok (.int i) ms1 else .bad
    | _ => .bad
  | _ => .bad
/-- the wish -/
def tXfld (K : PySem.W.Frag) (f : Str) (te : TE) : TE := fun σ H Q => te σ H fun x H1 => ∃ (a C dx : Addr) (oe o : Obj) (i : Int), x = .ref a ∧ H1 a = some (.ext fun h => h.get? a = some oe) ∧ oe.cls = .ref C ∧ (∃ v, oe.data = .fields v) ∧ oe.dict = some dx ∧ H1 dx = some (.frz o (.xd [(f, .int i)])) ∧
  XfC K C ∧ PySem.W.findIn K (.ref C) f = some none ∧ Q (.int i) H1
theorem pe_xfld {X : Cx} {e : Expr} {te : TE} {f : Str} {pos : Pos} (he : PE X e te) (hb : attributeBase e f X.env (eval e X.env) = eval e X.env := by rfl) : PE X (.Attribute e f pos) (tXfld X.K f te) := by
  refine ⟨fun pins s σ H Q I wish => attr_of hb (thn (he.run pins s σ H _ I wish) fun u s1 got => ?_)⟩
  obtain ⟨x, H1, I1, rx, a, C, dx, oe, o, i, rfl, ha, hc, ⟨v, hd⟩, hdx, ho, T, hno, q⟩ := got
  obtain rfl : u = Value.ref a := rx
  have at_ : s1.heap.get? a = some oe := (I1.hok a _ ha).1
  obtain ⟨o1, mA, hns, hr⟩ := I1.hok dx _ ho
  obtain ⟨od, ho2, hl⟩ := lookIn_ns hns
  obtain ⟨u, hu, ru⟩ := RelO.some_of (v := .int i) (o := mA f) (by have := hr f; simpa using this)
  have J : PySem.W.InstAt s1.heap a oe C (some od) := ⟨at_, hc, by unfold PySem.W.notCls; rw [hd] <;> rfl, by rw [hdx]; exact ho2⟩
  refine HandSPX.exc_get I1.kIn J T.ga T.gg T.exC (PySem.W.findObj_own T.hdC hno rfl (by rw [hl, hu])) (handed_of ru) ?_
  exact ⟨.int i, H1, I1.tok _, ru, q⟩
theorem d_xfld {X : Cx} {E : EW} {L : List Str} {f : Str} {e : Expr} {fo : Env → MS → Res D} {pos : Pos} (T : XFT X.K f L) (ho : DE X E e fo) (hb : attributeBase e f X.env (eval e X.env) = eval e X.env := by rfl) : DE X E (.Attribute e f pos) (xfldE L f fo) :=
  PE.conv (pe_xfld ho hb) fun σ H Q ⟨ι, env, ms, r, ev, o⟩ => tR_seq r ev o fun ι1 H1 ms1 d z B o1 => by
    cases d with
    | ptr n =>
      dsimp only at o1
      cases q : ms1[n]? with
      | none => simp only [q] at o1; exact o1.elim
      | some c =>
        cases c with
        | exn cn fa =>
          cases fa with
          | none => simp only [q] at o1; exact o1.elim
          | some w =>
            obtain ⟨g, i⟩ := w
            simp only [q] at o1
            by_cases h : cn ∈ L ∧ g = f
            · rw [if_pos h] at o1
              obtain ⟨p, rfl, hp⟩ := B.r
              obtain ⟨oe, C, h0, h1, h2, h3, dx, oo, h4, h5⟩ := B.rel.ok n p _ hp q
              obtain ⟨C', e1, e2, e3⟩ := T.hit _ h.1
              rw [e1] at h0
              cases h0
              rw [h.2] at h5
              exact ⟨p, _, dx, oe, oo, i, rfl, h1, h2, h3, h4, h5, e2, e3, o1 _ ι1 H1 B.rel .refl rfl⟩
            · rw [if_neg h] at o1; exact o1.elim
        | _ => simp only [q] at o1; exact o1.elim
    | _ => exact o1.elim
end DL

set_option maxHeartbeats 1000000
namespace DL
open PySem PySem.Spec L2
open PyProof.Rows hiding St
/-! ### bool(o), o of a class with __len__ and without __bool__ -/
section
variable {prog : Program} {w : World} {A : Around} {E : Value → Shared → Prop} {s : Shared} {K : PySem.W.Frag} {x C f : Addr} {ox : Obj}
theorem len_body {Q : Value → Shared → Prop} (X : K.In s.heap) (hx : s.heap.get? x = some ox) (hcls : ox.cls = .ref C) (hl : PySem.W.findIn K (.ref C) "__len__" = some (some (.ref f))) (hf : PySem.W.isFn K (.ref f) = true)
    (hc : wpAny (model prog w) A (call (.ref f) [.ref x]) (fun r s' => ∃ n u, r = .int n u ∧ 0 ≤ n ∧ n < 2 ^ 63 ∧ Q (.int n s'.toks) { s' with toks := s'.toks + 1 }) E s) :
    wpAny (model prog w) A (Builtin.«len» ⟨[.ref x], []⟩) (fun fin s' => ∃ v, fin = .done (.ret v) ∧ Q v s') E s := by
  have sp : PySem.W.Looks (model prog w) s.heap (specialOf (.ref x) "__len__") (some (.ref f)) := (looks_cls hx hcls).andThen (PySem.W.looks_findIn X hl)
  unfold Builtin.«len»
  refine wpAny_bind (m := oneArg "len" _) (wpAny_pure ?_)
  refine wpAny_bind (m := callSpecial? (.ref x) (PySem.Str.ofString "__len__")) (special_def X hf sp (wpAny_mono hc (fun r s' got => ?_) fun _ _ z => z))
  obtain ⟨n, u, rfl, lo, hi, q⟩ := got
  refine wpAny_bind (wpAny_holding (wpAny_pure ?_))
  refine wpAny_bind (wpAny_letGo ?_)
  show wpAny _ _ (if n < 0 then _ else _) _ _ _
  rw [if_neg (by omega)]
  show wpAny _ _ (if n ≥ 2 ^ 63 then _ else _) _ _ _
  rw [if_neg (by omega)]
  exact wpAny_bind (wpAny_mkInt (wpAny_pure ⟨_, rfl, q⟩))
theorem special_not {M : Model} {self : Value} {name : PySem.Str} {args : List Value} {Q : Option Value → Shared → Prop} (sp : PySem.W.Looks M s.heap (specialOf self name) none) (hc : Q none s) : wpAny M A (callSpecial? self name args) Q E s := by
  obtain ⟨h, g, d, t, os⟩ := s
  simp only [callSpecial?]
  refine wpAny_bind (sp.here ?_)
  exact wpAny_pure hc
/-- an object's truth, by its length -/
theorem truth_len {Q : Bool → Shared → Prop} (X : K.In s.heap) (hx : s.heap.get? x = some ox) (hcls : ox.cls = .ref C) (hb : PySem.W.findIn K (.ref C) "__bool__" = some none) (hl : PySem.W.findIn K (.ref C) "__len__" = some (some (.ref f))) (hf : PySem.W.isFn K (.ref f) = true)
    (hc : wpAny (model prog w) A.in1 (call (.ref f) [.ref x]) (fun r s' => ∃ n u, r = .int n u ∧ 0 ≤ n ∧ n < 2 ^ 63 ∧ Q (n != 0) { s' with toks := s'.toks + 1 }) E s) : wpAny (model prog w) A (truthy (.ref x)) Q E s := by
  have ty : PySem.W.Looks (model prog w) s.heap (typeOf (.ref x)) (.ref C) := looks_cls hx hcls
  have sb : PySem.W.Looks (model prog w) s.heap (specialOf (.ref x) "__bool__") none := ty.andThen (PySem.W.looks_findIn X hb)
  have sl : PySem.W.Looks (model prog w) s.heap (specialOf (.ref x) "__len__") (some (.ref f)) := ty.andThen (PySem.W.looks_findIn X hl)
  have key : wpAny (model prog w) A (runValue (.builtin "len" ⟨[.ref x], []⟩)) (fun r s' => ∃ n u, r = .int n u ∧ Q (n != 0) s') E s := by
    refine wpAny_runValue (codeAny_builtin entry_len ?_)
    rw [Around.under_plainId plain_len _]
    refine wpAny_mono (len_body (Q := fun r s' => ∃ n u, r = .int n u ∧ Q (n != 0) s') X hx hcls hl hf (wpAny_mono hc (fun r s' got => ?_) fun _ _ z => z)) (fun fin s' h' => ?_) fun _ _ z => z
    · obtain ⟨n, u, rfl, lo, hi, q⟩ := got
      exact ⟨n, u, rfl, lo, hi, n, _, rfl, q⟩
    · obtain ⟨r, rfl, hq⟩ := h'
      exact hq
  unfold truthy
  first
    | refine wpAny_bind (special_not sb ?_)
    | refine wpAny_bind (wpAny_pure (wpAny_bind (special_not sb ?_)))
  first
    | refine wpAny_bind (sl.here ?_)
    | refine wpAny_bind (wpAny_pure (wpAny_bind (sl.here ?_)))
  have fin : ∀ (r : Value) (s' : Shared), (∃ n u, r = .int n u ∧ Q (n != 0) s') → wpAny (model prog w) A (match r with | .int n _ => (pure (n != 0) : Sem Bool) | _ => unsupported "internal:truth.len") Q E s' := by
    rintro r s' ⟨n, u, rfl, q⟩
    exact wpAny_pure q
  first
    | exact wpAny_bind (wpAny_mono key (fun r s' h' => fin r s' h') fun _ _ e => e)
    | exact wpAny_bind (wpAny_pure (wpAny_bind (wpAny_mono key (fun r s' h' => fin r s' h') fun _ _ e => e)))
theorem bool_len {Q : Value → Shared → Prop} (X : K.In s.heap) (hx : s.heap.get? x = some ox) (hcls : ox.cls = .ref C) (hb : PySem.W.findIn K (.ref C) "__bool__" = some none) (hl : PySem.W.findIn K (.ref C) "__len__" = some (some (.ref f))) (hf : PySem.W.isFn K (.ref f) = true)
    (hc : wpAny (model prog w) A.in1.in1.in1 (call (.ref f) [.ref x]) (fun r s' => ∃ n u, r = .int n u ∧ 0 ≤ n ∧ n < 2 ^ 63 ∧ Q (.bool (n != 0)) { s' with toks := s'.toks + 1 }) E s) : wpAny (model prog w) A (call (.type "bool") [.ref x]) Q E s := by
  refine callType_codes (T := "bool") (Bi := Builtin.«object.__init__») (Q₁ := fun r s₁ => ∃ b, r = Value.bool b ∧ Q r s₁) PySem.F.called_bool (PySem.F.typeCall_bool_1 _) PySem.F.entry_object_init ?_ ?_
  · refine codeAny_of_tree ?_
    show wpAny _ A.in1.in1 (do checkBuiltinCall "bool.__new__" ⟨[.type "bool", .ref x], []⟩; again (.builtin "bool.__new__" ⟨[.type "bool", .ref x], []⟩)) _ _ s
    refine wpAny_bind (wpAny_of_eq (PySem.F.newCall_bool_1 _) (wpAny_pure ⟨plainId_quiet (by decide +kernel) _, codeAny_builtin PySem.F.entry_bool_new ?_⟩))
    rw [Around.under_plainId (by decide +kernel) _]
    have tru := truth_len (A := A.in1.in1) (Q := fun b s' => Q (.bool b) s') X hx hcls hb hl hf hc
    obtain ⟨hp, g, d, tk, os⟩ := s
    have f1 := PySem.F.conv_sub_bool
    unfold Builtin.«bool.__new__»
    repeat (any_goals (first | assumption | (with_reducible refine wpAny_mono tru (fun b s' q => ?_) (fun _ _ z => z)) | wp_step))
    all_goals first | exact ⟨_, rfl, q⟩ | exact q | skip
  · rintro obj s₁ ⟨b, rfl, hq⟩
    exact ⟨PySem.typeIs_bool _ _, PySem.F.args_object_init_2 _ _, object_init_meets PySem.F.called_bool.init.lookup PySem.F.called_bool.made (by decide) prog w A.in1 _ s₁ ⟨PySem.typeIs_bool _ _, rfl, hq⟩⟩
end
@[simp] def boolOE (nm : Str) (sem : List D → MS → Res D) (fo : Env → MS → Res D) (env : Env) (ms : MS) : Res D := (fo env ms).bind fun o ms1 => match objOf nm ms1 o with
  | some _ => (noExc (sem [o] ms1)).bind fun d ms2 => match d with
    | .int n => if 0 ≤ n ∧ n < 9223372036854775808 then .ok (.bl (n != 0)) ms2 else .bad
    | _ => .bad
  | none => .bad
section
variable {X : Cx} {E : EW} {k : Nat} {nm : Str} {ps : List Str} {p pos : Pos} {o : Expr} {fo : Env → MS → Res D} {sem : List D → MS → Res D}
def rBoolO (X : Cx) (C : Addr) (sp : Sp) : List V → Hp → VK → Prop := fun xs H Q => ∃ (a dx : Addr) (fs : List (Str × V)), xs = [.ref a] ∧ H a = some (.ins C dx fs) ∧ sp [.ref a] H (fun v H' => ∃ n : Int, v = .int n ∧ 0 ≤ n ∧ n < 9223372036854775808 ∧ Q (.bl (n != 0)) H') E0
theorem call_boolO {C f : Addr} {fd : FuncData} {sp : Sp} (F : FnOk X.prog X.w X.K X.mg X.base CX0 k f fd ps sp) (hr : Room (k + 3) X.A) (me : Meth X.K C "__len__" f) (nb : PySem.W.findIn X.K (.ref C) "__bool__" = some none) (hb : Binds X.K fd ps []) : CallR X (.type "bool") (rBoolO X C sp) := by
  intro pins s σ H xs us Q I r h
  obtain ⟨a, dx, fs, rfl, hH, h⟩ := h
  cases r with
  | cons rx rr =>
    cases rr
    cases rx
    have at_ := (I.hok a _ hH).2.2.2.1
    refine bool_len I.kIn at_ rfl nb me.at_ me.fn ?_
    have hl : [Value.ref a].length = ps.length := by have := F.len _ _ _ _ h; simpa using this
    have b := hb s [.ref a] I.kIn (by rw [List.append_nil]; exact hl)
    rw [List.append_nil] at b
    have hr1 : Room k X.A.in1.in1.in1 := (show Room (k + 1) X.A.in1.in1 from (show Room (k + 2) X.A.in1 from hr.in1).in1).in1
    refine wpAny_call (codeAny_mono (F.run X.A.in1.in1.in1 X.stack s H ⟨[.ref a], []⟩ [.ref a] [.ref a] _ E0 hr1 I.env0.in1.in1.in1 b (.cons rfl .nil) h) fun r s' got => ?_)
    cases r with
    | error e => exact (show False from got).elim
    | ok fl =>
      cases fl with
      | next => exact False.elim got
      | brk => exact False.elim got
      | cont => exact False.elim got
      | ret u =>
        obtain ⟨v, H', I', rv, n, rfl, lo, hi, q⟩ := I.after got
        obtain ⟨t, rfl⟩ := rv
        exact ⟨n, t, rfl, lo, by simpa using hi, .bl (n != 0), H', I'.kept (t' := s'.toks + 1) fun _ _ z => z, rfl, q⟩
theorem d_boolO (C : CalM X.prog X.w X.K X.mg X.base k nm "__len__" ps sem) (nb : PySem.W.findIn X.K (.ref C.c.C) "__bool__" = some none) (hr : Room (k + 3) X.A) (ho : DE X E o fo) (hg : Gl X "bool") (hm : X.mg "bool" = none)
    (he : starEach [o] X.env = (false, eval o X.env) :: starEach [] X.env := by rfl) (hpl : (backTo pos (starEach [] X.env)).any (·.1) = false := by rfl) (hn : ps.length = 1 := by rfl) : DE X E (.Call (.Name "bool" p) [o] [] pos) (boolOE nm sem fo) :=
  PE.conv (pe_callTy (call_boolO C.ok hr C.me nb C.b) hg hm (by decide +kernel) (a_cons ho a_nil he) (by decide) (by decide) he hpl) fun σ H Q ⟨ι, env, ms, r, ev, o⟩ => by
    refine ⟨ι, env, ms, r, ev, ?_⟩
    unfold consA
    unfold boolOE at o
    cases z : fo env ms with
    | bad => rw [z] at o; exact o
    | exc y ms1 => rw [z] at o; exact o
    | ok d ms1 =>
      rw [z] at o
      simp only [bind_ok] at o
      simp only [bind_ok, nilA]
      intro vs ι1 H1 R1 l1 rv
      obtain ⟨v, rfl, rd⟩ := rv.one
      cases c : objOf nm ms1 d with
      | none => simp only [c] at o; exact o.elim
      | some y =>
        obtain ⟨j, fs⟩ := y
        simp only [c] at o
        obtain ⟨_, a, dx, vs', rfl, hn', h1, hk⟩ := Rel.objOf C.c R1 c rd
        refine ⟨a, dx, vs', rfl, h1, ι1, ms1, [d], R1, ⟨_, [], rfl, rd, rfl⟩, hn.symm ▸ rfl, ?_⟩
        cases q : sem [d] ms1 with
        | bad => rw [q] at o; exact o.elim
        | exc x ms2 => rw [q] at o; exact o.elim
        | ok r2 ms2 =>
          rw [q] at o
          simp only [noExc, bind_ok] at o
          intro b ι2 H2 R2 l2 rb
          cases r2 with
          | int n =>
            dsimp only at o
            by_cases hz : 0 ≤ n ∧ n < 9223372036854775808
            · rw [if_pos hz] at o
              have e : b = .int n := rb
              exact ⟨n, e, hz.1, hz.2, o _ ι2 H2 R2 (l1.trans l2) rfl⟩
            · rw [if_neg hz] at o; exact o.elim
          | _ => exact o.elim
end
end DL

set_option maxHeartbeats 2000000
namespace DL
open PySem PySem.Spec L2
open PyProof.Rows hiding St

/-! ### sorted(..) as a list that may be changed -/
@[simp] def sortM (ds : List D) (ms : MS) : Res D := (sortQ ds ms).bind fun d ms1 => match d with
  | .lst xs => mkMut xs ms1
  | _ => .bad
theorem p_sortM {K : PySem.W.Frag} {E : EW} : PC1 K E (fun xs H Q => (∃ (a : Addr) (kvs : List (Key × V)) (ks : List Int), xs = [.ref a] ∧ H a = some (.dK kvs) ∧ kvs.map (·.1) = ks.map Sum.inl ∧ ks.length ≤ 1000 ∧
    ∀ (ys : List Int) (p : Addr), ys.Perm ks → ys.Pairwise (· ≤ ·) → H p = none → Q (.ref p) (upd H p (.lst (ys.map V.int)))) ∨ rSortedI K xs H Q) sortM := by
  intro ι H ms ds vs Q R r o
  unfold sortM at o
  match ds, r, o with
  | [], _, o1 => exact o1.elim
  | _ :: _ :: _, _, o1 => exact o1.elim
  | [d], r, o =>
    obtain ⟨v, rfl, rd⟩ := Rps.one r
    cases c : cellK ms d with
    | some z =>
      obtain ⟨n, kvs⟩ := z
      simp only [sortQ, c] at o
      cases c2 : keysI kvs with
      | none => simp only [c2] at o; exact o.elim
      | some ks =>
        simp only [c2] at o
        by_cases hl : ks.length ≤ 1000
        · rw [if_pos hl] at o
          obtain ⟨p, us, rfl, hn, h1, hk⟩ := R.cellK c rd
          refine .inl ⟨p, us, ks, rfl, h1, by rw [hk.ks]; exact keysI_eq c2, hl, fun ys q h1 h2 h3 => ?_⟩
          have e := rise_eq h1 h2
          subst e
          exact (mkMut_ok R (Rps.ofInts) o).2 q h3
        · rw [if_neg hl] at o; exact o.elim
    | none =>
      simp only [sortQ, c] at o
      cases c1 : rlOf ms d with
      | none => simp only [c1, Option.bind_none] at o; exact o.elim
      | some xs =>
        cases c2 : intsOf xs with
        | none => simp only [c1, Option.bind_some, c2] at o; exact o.elim
        | some ns =>
          simp only [c1, Option.bind_some, c2] at o
          obtain ⟨a, ys, rfl, rs, hq⟩ := R.rl c1 rd
          rw [ints_rp c2 rs] at hq
          refine .inr ⟨a, ns, rfl, hq, fun ys q h1 h2 h3 => ?_⟩
          have e := rise_eq h1 h2
          subst e
          exact (mkMut_ok R (Rps.ofInts) o).2 q h3
theorem d_sortM {X : Cx} {E : EW} {e : Expr} {es : List Expr} {fs : Env → MS → Res (List D)} {p pos : Pos} (hc : X.calm = true) (hg : Gl X "sorted") (hm : X.mg "sorted" = none) (ha : DA X E (e :: es) fs)
    (he : starEach (e :: es) X.env = (false, eval e X.env) :: starEach es X.env := by rfl) (hpl : (backTo pos (starEach es X.env)).any (·.1) = false := by rfl) : DE X E (.Call (.Name "sorted" p) (e :: es) [] pos) (appE fs sortM) :=
  d_blt ((call_sortedDX hc).or cr_sortedI) p_sortM hg hm (by decide +kernel) ha (he := he) (hpl := hpl)
end DL

set_option maxHeartbeats 1000000
namespace DL
open PySem PySem.Spec L2
open PyProof.Rows hiding St

/-! ### an exception made and kept, not raised -/
theorem pe_exn {X : Cx} {e : Expr} {t : St → Hp → XK → Prop} (hs : X.stack = X.env :: X.outer) (hf : X.env.frame = some X.env.locals) (hex : X.ex = []) (he : PMk X e t) :
    PE X e (fun σ H Q => t σ H fun cls d H1 => (d = none ∨ ∃ dx fs, d = some dx ∧ H1 dx = some (.xd fs)) ∧ ∀ a oe H2, H1 a = none → Zc cls d oe → (∃ f, oe.data = .fields f) → Kept H1 d a oe H2 → Q (.ref a) H2) := by
  refine ⟨fun pins s σ H Q I wish => thn (he pins s σ H _ I wish) fun u s1 got => ?_⟩
  obtain ⟨a, oe, vs, sI, H', cls, d, rfl, J, k, hne, ha, hz, hd, h1, na, os, ag, r, hdict, q⟩ := got
  have nfr : a ∉ frs X.stack := fun hm => by
    obtain ⟨_, o', e', hnf⟩ := J.stack.mem hm
    rw [hne] at e'; cases e'
  have nL : a ≠ X.env.locals := fun z => nfr (by rw [hs]; exact List.mem_filterMap.mpr ⟨X.env, List.mem_cons_self, by rw [hf, z]⟩)
  have nb : ∀ b o, sI.heap.get? b = some o → b ∉ frs X.stack → sI.heap.get? b = some o := fun b o e _ => e
  have J5 : Inv X pins σ H' { s1 with heap := s1.heap } := J.landed nb k (Heap.UpToSlots.of_keeps k) os ag
  have taken : ∃ H2, Kept H' d a oe H2 ∧ Inv X pins σ H2 s1 := by
    rcases hdict with e | ⟨dx, fs, e, hx⟩
    · exact ⟨_, ⟨H', .inl ⟨e, rfl⟩, rfl⟩, Inv.adopt J J5 nb hne na nfr nL ha hd (fun _ _ => by rw [hex]; simp)⟩
    · obtain ⟨o, F5⟩ := Inv.freeze J5 hx
      have na2 : upd H' dx (.frz o (.xd fs)) a = none := by
        rw [upd_ne fun z => by rw [z, hx] at na; cases na]; exact na
      exact ⟨_, ⟨_, .inr ⟨dx, fs, o, e, hx, rfl⟩, rfl⟩, Inv.adopt J F5 nb hne na2 nfr nL ha hd (fun _ _ => by rw [hex]; simp)⟩
  obtain ⟨H2, hk2, T2⟩ := taken
  exact ⟨.ref a, H2, T2, rfl, q a oe H2 na hz ⟨_, hd⟩ hk2⟩
@[simp] def makeXE (c f : Str) (fe : Env → MS → Res D) (env : Env) (ms : MS) : Res D := (fe env ms).bind fun d ms1 => match d with
  | .int m => if numFits m then .ok (.ptr ms1.length) (ms1 ++ [.exn c (some (f, m))]) else .bad
  | _ => .bad
theorem d_makeX {X : Cx} {E : EW} {k : Nat} {e : Expr} {fe : Env → MS → Res D} {p pos : Pos} {c f : Str} (T : CalXF X.prog X.w X.K X.mg X.base k c f) (hr : Room (k + 1) X.A) (he : DE X E e fe) (h1 : X.stack = X.env :: X.outer := by rfl) (h2 : X.env.frame = some X.env.locals := by rfl) (h3 : X.ex = [] := by rfl) (hg : Gl X c := by rfl) (hdb : (c == ("__debug__" : Str)) = false := by decide)
    (hs : starEach [e] X.env = (false, eval e X.env) :: starEach [] X.env := by rfl) (hpl : (backTo pos (starEach [] X.env)).any (·.1) = false := by rfl) : DE X E (.Call (.Name c p) [e] [] pos) (makeXE c f fe) :=
  PE.conv (pe_exn h1 h2 h3 (T.made X rfl rfl rfl rfl rfl hr hg (pa_more (a_cons he a_nil hs)) hdb hs hpl)) fun σ H Q ⟨ι, env, ms, r, ev, o⟩ => by
    refine ⟨fun vs H1 => ∃ m : Int, vs = [.int m] ∧ numFits m ∧ ∃ ι1 ms1, Rel X.K ι1 H1 ms1 ∧ ∀ v ι2 H2, Rel X.K ι2 H2 (ms1 ++ [.exn c (some (f, m))]) → Le ι1 H1 ι2 H2 → Rp X.K ι2 H2 (.ptr ms1.length) v → Q v H2, ?_, fun vs H1 got => ?_⟩
    · refine ⟨ι, env, ms, r, ev, ?_⟩
      unfold consA
      unfold makeXE at o
      cases z : fe env ms with
      | bad => rw [z] at o; exact o
      | exc y ms1 => rw [z] at o; exact o
      | ok d ms1 =>
        rw [z] at o
        simp only [bind_ok] at o
        simp only [bind_ok, nilA]
        intro vs ι1 H1 R1 l1 rv
        obtain ⟨v, rfl, rd⟩ := rv.one
        cases d with
        | int m =>
          dsimp only at o
          by_cases hm : numFits m
          · rw [if_pos hm] at o
            have ev2 : v = .int m := rd
            exact ⟨m, by rw [ev2], hm, ι1, ms1, R1, fun v2 ι2 H2 R2 l2 r2 => o v2 ι2 H2 R2 (l1.trans l2) r2⟩
          · rw [if_neg hm] at o; exact o.elim
        | _ => exact o.elim
    · obtain ⟨m, rfl, hm, ι1, ms1, R1, q⟩ := got
      refine ⟨m, rfl, hm, fun dx n => ⟨.inr ⟨dx, _, rfl, upd_same⟩, fun a oe H2 na hz hf hk => ?_⟩⟩
      obtain ⟨R2, l2⟩ := Rel.kept (x := ⟨c, some (f, m), env⟩) (R1.new n) ⟨⟨dx, rfl, upd_same⟩, T.C, rfl, T.g0⟩ na hz hf hk
      refine q (.ref a) _ H2 R2 ((Le.new R1 n).trans l2) ⟨a, rfl, ?_⟩
      show (ι1.a ++ [a])[ms1.length]? = some a
      rw [← R1.len, List.getElem?_append_right (Nat.le_refl _)]
      simp
/-! ### objects made with some of their keyword-only parameters -/
structure CalP (P : Program) (w : World) (K : PySem.W.Frag) (mg : Str → Option Value) (base : Heap) (k : Nat) (nm : Str) (ps ks : List Str) (ix : List Nat) (sem : List D → MS → Res D) (dv : List D) where
  fl : List Str
  c : KC K mg nm fl
  f : Addr
  fd : FuncData
  ok : FnOk P w K mg base CX0 k f fd ps (dSp K ps.length sem)
  mkc : Mk K c.C f
  dvs : List V
  rp : ∀ ι H, Rps K ι H dv dvs
  b : ∃ mv : List Value, KBn K fd ps 1 ks (fun us ws => pick ix (us ++ (ws ++ mv))) (fun vs zs => pick ix (vs ++ (zs ++ dvs)))
@[simp] def makePE (nm : Str) (n m : Nat) (ix : List Nat) (fk : Env → MS → Res (List D)) (dv : List D) (sem : List D → MS → Res D) (env : Env) (ms : MS) : Res D := (fk env ms).bind fun ds ms1 => if ds.length = m then (callP n sem (pick ix (.ptr ms1.length :: (ds ++ dv))) (ms1 ++ [.obj nm []])).bind fun r ms2 => match r with
  | .non => .ok (.ptr ms1.length) ms2
  | _ => .bad else .bad
theorem c_makeP {X : Cx} {E : EW} {k n m : Nat} {ps ks : List Str} {ix : List Nat} {p pos : Pos} {kws : List Keyword} {fk : Env → MS → Res (List D)} {sem : List D → MS → Res D} {dv : List D} {x : Str} (C : CalP X.prog X.w X.K X.mg X.base k x ps ks ix sem dv) (hr : Room (k + 1) X.A) (hkw : DK X E kws fk) (hg : Gl X x := by rfl)
    (hall : (backToKw pos (keywordEach kws X.env)).all (·.1.isSome) = true := by rfl) (hks : (backToKw pos (keywordEach kws X.env)).filterMap (·.1) = ks := by rfl) (hdb : (x == ("__debug__" : Str)) = false := by decide)
    (hpl : ((backTo pos (starEach [] X.env)).any (·.1) || (backToKw pos (keywordEach kws X.env)).any (·.1.isNone)) = false := by rfl) (hn : ps.length = n := by rfl) (hm : ks.length = m := by rfl) : DE X E (.Call (.Name x p) [] kws pos) (makePE x n m ix fk dv sem) := by
  subst hn
  subst hm
  obtain ⟨mv, kb⟩ := C.b
  refine PE.conv (pe_makeK0 C.mkc C.ok hr hg C.c.g kb pass0 hkw hall hks hdb hpl) fun σ H Q ⟨ι, env, ms, r, ev, q⟩ => ?_
  have q' : Out X.K E (Rp X.K) ι H ((fk env ms).bind fun ds ms1 => if ds.length = ks.length then (callP ps.length sem (pick ix (.ptr ms1.length :: (ds ++ dv))) (ms1 ++ [.obj x []])).bind fun r ms2 => match r with | .non => .ok (.ptr ms1.length) ms2 | _ => .bad else .bad) Q := q
  refine tR_seq r ev q' fun ι1 H1 ms1 ds us B o1 => ?_
  by_cases hd : ds.length = ks.length
  · rw [if_pos hd] at o1
    refine ⟨rfl, by rw [B.r.length]; exact hd, fun y dx ny ndx ndy => ?_⟩
    obtain ⟨R3, l3, hx⟩ := new_obj C.c B.rel ny ndx ndy
    unfold callP at o1
    by_cases hl : (pick ix (.ptr ms1.length :: (ds ++ dv))).length = ps.length
    · rw [if_pos hl] at o1
      have rs : Rps X.K (ι1.push y) (upd (upd H1 dx (.own y)) y (.ins C.c.C dx [])) (.ptr ms1.length :: (ds ++ dv)) (.ref y :: (us ++ C.dvs)) := ⟨_, _, rfl, ⟨y, rfl, hx⟩, (Rps.mono l3 _ _ B.r).append (C.rp _ _)⟩
      exact ⟨ι1.push y, ms1 ++ [.obj x []], _, R3, pick_rps rs ix, hl, made_out l3 hx o1⟩
    · rw [if_neg hl] at o1; exact o1.elim
  · rw [if_neg hd] at o1; exact o1.elim
end DL

set_option maxHeartbeats 1000000
namespace DL
open PySem PySem.Spec L2
open PyProof.Rows hiding St

/-! ### text.index(sign) -/
@[simp] def sidxE (fo fe : Env → MS → Res D) (env : Env) (ms : MS) : Res D := (fo env ms).bind fun o ms1 => match o with
  | .str a => (fe env ms1).bind fun d ms2 => match d with
    | .str b => match Builtin.Str.occurrences a b 0 a.length 1 with
      | i :: _ => .ok (.int (i : Nat)) ms2
      | [] => .bad
    | _ => .bad
  | _ => .bad
theorem d_sindex {X : Cx} {E : EW} {o e : Expr} {fo fe : Env → MS → Res D} {apos pos : Pos} (ho : DE X E o fo) (he : DE X E e fe) (hbase : attributeBase o "index" X.env (eval o X.env) = eval o X.env := by rfl)
    (hfew : (((backTo pos (starEach [e] X.env)).all fun x => !x.1) && (backToKw pos (keywordEach [] X.env)).all (·.1.isSome) && decide ([e].length + ([] : List Keyword).length + (if ([] : List Keyword).isEmpty then 0 else 1) < 30)) = true := by rfl)
    (hline : (apos.endLine == pos.line) = true := by rfl) (hs : starEach [e] X.env = (false, eval e X.env) :: starEach [] X.env := by rfl) (hplain : (backTo pos (starEach [] X.env)).any (·.1) = false := by rfl) :
    DE X E (.Call (.Attribute o "index" apos) [e] [] pos) (sidxE fo fe) :=
  PE.conv (pe_bm PySem.F.plainAttrs_str PySem.F.slot_str_index PySem.F.type_str_index mt_sindex ho (a_cons he a_nil hs) (hbase := hbase) (hfew := hfew) (hline := hline) (hs := hs) (hplain := hplain)) fun σ H Q ⟨ι, env, ms, r, ev, o⟩ => by
    refine tR_seq r ev o fun ι1 H1 ms1 d x B o1 => ?_
    cases d with
    | str a =>
      dsimp only at o1
      have ex : x = .str a := B.r
      subst ex
      refine ⟨(rfl : tyV X.K "str" (.str a) H1), ι1, env, ms1, B.rel, B.env, ?_⟩
      unfold consA
      cases q2 : fe env ms1 with
      | bad => simp only [q2] at o1; exact o1
      | exc y ms2 => simp only [q2] at o1; exact o1
      | ok y ms2 =>
        simp only [q2, bind_ok] at o1
        simp only [bind_ok, nilA]
        intro vs ι2 H2 R2 l2 rv
        obtain ⟨v, rfl, ry⟩ := rv.one
        cases y with
        | str b =>
          dsimp only at o1
          have ev2 : v = .str b := ry
          subst ev2
          cases q3 : Builtin.Str.occurrences a b 0 a.length 1 with
          | nil => simp only [q3] at o1; exact o1.elim
          | cons i rest =>
            simp only [q3] at o1
            exact ⟨a, b, i, rest, rfl, rfl, q3, o1 _ ι2 H2 R2 l2 rfl⟩
        | _ => exact o1.elim
    | _ => exact o1.elim
/-! ### list(range(n)) -/
@[simp] def lrngE (f : Env → MS → Res D) (env : Env) (ms : MS) : Res D := (f env ms).bind fun d ms1 => match d with
  | .int j => if 0 ≤ j ∧ j ≤ 1000000 then .ok (.lst (((List.range j.toNat).map fun (k : Nat) => (k : Int)).map D.int)) ms1 else .bad
  | _ => .bad
theorem d_lrng {X : Cx} {E : EW} {a : Expr} {f : Env → MS → Res D} {p p2 q pos : Pos} (hc : X.calm = true) (hg : Gl X "list") (hm : X.mg "list" = none) (hg2 : Gl X "range") (hm2 : X.mg "range" = none) (ha : DE X E a f) (na : starEach [a] X.env = (false, eval a X.env) :: starEach [] X.env := by rfl)
    (na2 : starEach [.Call (.Name "range" p2) [a] [] q] X.env = (false, eval (.Call (.Name "range" p2) [a] [] q) X.env) :: starEach [] X.env := by rfl) : DE X E (.Call (.Name "list" p) [.Call (.Name "range" p2) [a] [] q] [] pos) (lrngE f) :=
  PE.conv (pe_listRg hc hg hm (prg_1 hg2 hm2 ha na) na2) fun σ H Q ⟨ι, env, ms, r, ev, o⟩ => tR_seq r ev o fun ι1 H1 ms1 d x B o1 => by
    cases d with
    | int j =>
      dsimp only at o1
      by_cases h : 0 ≤ j ∧ j ≤ 1000000
      · rw [if_pos h] at o1
        refine ⟨j, B.r, RgOk.of_le (by omega) (by omega) (by omega) (by omega), fun z hz => ?_⟩
        have e : rgV 0 j = ((List.range j.toNat).map fun (k : Nat) => (k : Int)).map V.int := by
          unfold rgV
          rw [Int.sub_zero, List.map_map]
          exact List.map_congr_left fun k _ => by show V.int (0 + (k : Int)) = V.int (k : Int); rw [Int.zero_add]
        rw [e]
        exact newL B.rel o1 B.rel .refl hz
      · rw [if_neg h] at o1; exact o1.elim
    | _ => exact o1.elim
theorem c_call0 {X : Cx} {E : EW} {k n : Nat} {ps : List Str} {x : Str} {sem : List D → MS → Res D} {p pos : Pos} (C : Cal X.prog X.w X.K X.mg X.base k x ps sem) (hr : Room k X.A) (hg : Gl X x := by rfl) (hdb : (x == ("__debug__" : Str)) = false := by decide) (hn : ps.length = n := by rfl) :
    DE X E (.Call (.Name x p) [] [] pos) (appE nilA (callP n sem)) := by
  subst hn
  exact d_call0 C.ok hr hg C.g C.kp C.b hdb
end DL

set_option maxHeartbeats 2000000
namespace DL
open PySem PySem.Spec L2
open PyProof.Rows hiding St
open PySem.W (dataLt maxD AlikeAll max_list_default dataLt_int)

/-! ### sorted(set(xs)), up to a thousand -/
theorem call_sortedSX {X : Cx} (hc : X.calm = true) : CallR X (.builtin "sorted") (fun vs H Q => ∃ (a : Addr) (S : Int → Bool) (n : Nat), vs = [V.ref a] ∧ H a = some (SetO X.w a S n) ∧ n ≤ 1000 ∧
    ∀ (ns : List Int) (p : Addr), ns.Pairwise (· < ·) → (∀ k : Int, k ∈ ns ↔ S k = true) → ns.length = n → H p = none → Q (.ref p) (upd H p (.lst (ns.map V.int)))) := by
  intro pins s σ H vs us Q I r h
  obtain ⟨a, S, n, rfl, ha, few, q⟩ := h
  obtain ⟨o, es, ep, t, ho, hex, hd, g, nd, hm, hb, hf, hn, hr, hl⟩ := setO_get I ha
  rw [Vals.ref1 r]
  apply Calls.call_function_entry PyProof.Rows.kind_sorted PyProof.Rows.plain_sorted PyProof.Rows.entry_sorted (PyProof.Rows.args_sorted1 _)
  unfold Builtin.«sorted»
  apply wpAny_bind (m := checkCount "sorted" 1 1 _); apply wpAny_pure
  refine wpAny_bind (collect_set (A := X.A.in1) (I.ok.hd hc) ⟨o, ho, hex.1, hd⟩ hf hb hr hl fun s1 vs k1 hz g1 o1 pm => ?_)
  have hvl : vs.length = n := by rw [pm.length_eq, List.length_map, Array.length_toList]; exact hn
  have hI : IntsAre vs (vs.map Builtin.Re.reRawOf) := ints_of vs fun v hv => by
    obtain ⟨e, he, q⟩ := List.mem_map.mp (pm.mem_iff.mp hv)
    obtain ⟨k, tk, h1, _⟩ := g e he
    exact ⟨k, tk, by rw [← q]; exact h1⟩
  have pk : (vs.map Builtin.Re.reRawOf).Perm (es.toList.map L2.keyOf) := by
    have q := pm.map Builtin.Re.reRawOf
    rw [List.map_map] at q
    exact q
  have sz : vs.length ≤ sizeLine := by rw [hvl, sizeLine_eq]; omega
  apply wpAny_bind; apply wpAny_newList ?_ sz
  have ob : (s1.heap.push (seqObj "list" vs.toArray 0)).get? s1.heap.objs.size = some (seqObj "list" vs.toArray 0) := Heap.get?_push_size _ rfl
  refine wpAny_bind (wpAny_holding (wpAny_call_entry PyProof.Rows.slot_list_sort ⟨_, ob, rfl⟩ PyProof.Rows.entry_list_sort (SrtO.list_sort_ord SrtO.swo_int ob sz (fun h2 => SrtO.ints_sortable hI h2) fun out w1 w2 => ⟨_, rfl, ?_⟩) (PyProof.Rows.args_list_sort _)))
  obtain ⟨a1, a2, a3⟩ := SrtO.ints_out hI w1 w2
  obtain ⟨c, hc2⟩ := PyProof.Rows.sortedHeap_at (vs := vs) (out := out.toArray) ob
  have pn : (out.map SrtO.iv).Perm (es.toList.map L2.keyOf) := a2.trans pk
  have hnl : (out.map SrtO.iv).length = n := by rw [pn.length_eq, List.length_map, Array.length_toList]; exact hn
  have zl : ((out.map SrtO.iv).map V.int).length ≤ sizeLine := by rw [List.length_map, hnl, sizeLine_eq]; omega
  have hp : H s1.heap.objs.size = none := I.hok.fresh hz
  have keep : ∀ b u, s.heap.get? b = some u → (sortedHeap (s1.heap.push (seqObj "list" vs.toArray 0)) s1.heap.objs.size vs out.toArray).get? b = some u := fun b u e => by
    have q := k1 b u e
    have hlt := Heap.lt_size q
    rw [PyProof.Rows.sortedHeap_old (Nat.ne_of_lt hlt) (Nat.lt_trans hlt (by rw [Heap.size_push]; exact Nat.lt_succ_self _))]
    exact Heap.get?_push_of_some _ q
  refine wpAny_pure ⟨_, rfl, ?_⟩
  have J : Inv X pins σ (upd H s1.heap.objs.size (.lst ((out.map SrtO.iv).map V.int))) { s with heap := sortedHeap (s1.heap.push (seqObj "list" vs.toArray 0)) s1.heap.objs.size vs out.toArray, gens := s1.gens, drawn := s1.drawn, toks := s1.toks } :=
    I.call (ch := []) (Un.laid keep hz hp) (I.hok.laid keep hz ⟨zl, out, c, vals_of_ints a1, hc2⟩) (by rw [g1]; exact I.bare) (fun _ z => nomatch z)
  have e : ({ s1 with heap := sortedHeap (s1.heap.push (seqObj "list" vs.toArray 0)) s1.heap.objs.size vs out.toArray } : Shared) = { s with heap := sortedHeap (s1.heap.push (seqObj "list" vs.toArray 0)) s1.heap.objs.size vs out.toArray, gens := s1.gens, drawn := s1.drawn, toks := s1.toks } := by
    cases s1
    cases s
    cases o1
    rfl
  rw [← e] at J
  exact ⟨.ref s1.heap.objs.size, _, J, rfl, q _ s1.heap.objs.size (lt_of_le_nodup _ a3 (pn.nodup_iff.mpr nd)) (fun k => by rw [pn.mem_iff, ← hm k]) hnl hp⟩
@[simp] def ssetQ (ds : List D) (ms : MS) : Res D := match ds with
  | [d] => match (rlOf ms d).bind intsOf with
    | some ns => if ns.length ≤ 1000 ∧ (rset ns).length ≤ 1000 then .ok (.lst ((rset ns).map D.int)) ms else .bad
    | none => .bad
  | _ => .bad
section
variable {X : Cx} {E : EW} {e e2 o : Expr} {es : List Expr} {f g fo fe : Env → MS → Res D} {fs : Env → MS → Res (List D)} {p p2 q pos apos kpos : Pos}
theorem d_ssetQ (hc : X.calm = true) (hg : Gl X "sorted") (hm : X.mg "sorted" = none) (hg2 : Gl X "set") (hm2 : X.mg "set" = none) (ha : DA X E [e] fs) (hs : starEach [e] X.env = [(false, eval e X.env)] := by rfl) (hs2 : starEach [.Call (.Name "set" p2) [e] [] q] X.env = [(false, eval (.Call (.Name "set" p2) [e] [] q) X.env)] := by rfl) :
    DE X E (.Call (.Name "sorted" p) [.Call (.Name "set" p2) [e] [] q] [] pos) (appE fs ssetQ) := by
  have z := pe_callB (pos := pos) (p := p) (call_sortedSX hc) hg hm (by decide +kernel) (pa_cons (pe_callTy (pos := q) (p := p2) (cr_setI hc) hg2 hm2 (by decide +kernel) ha (he := hs)) pa_nil) (he := hs2)
  refine PE.conv z fun σ H Q ⟨ι, env, ms, r, ev, o⟩ => ?_
  have o' : tR X.K E (Rps X.K) fs σ H fun vs H1 => rSetI X.K X.w vs H1 fun x H2 => ∃ (a : Addr) (S : Int → Bool) (n : Nat), [x] = [V.ref a] ∧ H2 a = some (SetO X.w a S n) ∧ n ≤ 1000 ∧
    ∀ (ns : List Int) (p : Addr), ns.Pairwise (· < ·) → (∀ k : Int, k ∈ ns ↔ S k = true) → ns.length = n → H2 p = none → Q (.ref p) (upd H2 p (.lst (ns.map V.int))) := tR_seq r ev o fun ι1 H1 ms1 ds vs B o1 => by
    match ds, B.r, o1 with
    | [], _, o1 => exact o1.elim
    | _ :: _ :: _, _, o1 => exact o1.elim
    | [d], rd, o1 =>
      obtain ⟨v, rfl, rd1⟩ := Rps.one rd
      cases c1 : rlOf ms1 d with
      | none => simp only [ssetQ, c1, Option.bind_none] at o1; exact o1.elim
      | some xs =>
        cases c2 : intsOf xs with
        | none => simp only [ssetQ, c1, Option.bind_some, c2] at o1; exact o1.elim
        | some ns =>
          simp only [ssetQ, c1, Option.bind_some, c2] at o1
          by_cases hl : ns.length ≤ 1000 ∧ (rset ns).length ≤ 1000
          · rw [if_pos hl] at o1
            obtain ⟨a, ys, rfl, rs, hq⟩ := B.rel.rl c1 rd1
            rw [ints_rp c2 rs] at hq
            refine ⟨a, ns, rfl, hq, hl.1, fun b n hn hb => ⟨b, _, n, rfl, upd_same, by omega, fun ms' l h1 h2 h3 hl' => ?_⟩⟩
            have hr : ms' = rset ns := rset_eq h1 fun k => by rw [h2 k]; simp
            subst hr
            exact newL B.rel o1 (B.rel.new hb) (Le.new B.rel hb) hl'
          · rw [if_neg hl] at o1; exact o1.elim
  exact o'
/-! ### max(xs, default=k) -/
def maxO (ns : List Int) (j : Int) : Int := match ns.max? with
  | some m => m
  | none => j
@[simp] def maxdE (f g : Env → MS → Res D) (env : Env) (ms : MS) : Res D := (f env ms).bind fun d ms1 => (g env ms1).bind fun k ms2 => match k with
  | .int j => match (rlOf ms2 d).bind intsOf with
    | some ns => .ok (.int (maxO ns j)) ms2
    | none => .bad
  | _ => .bad
theorem depth_ints : ∀ ns : List Int, PyData.depthAll (ns.map PyData.int) = 0
  | [] => rfl
  | n :: ns => by
    have := depth_ints ns
    simp only [List.map_cons, PyData.depthAll, this]
    rfl
theorem maxD_ints : ∀ (xs : List Int) (x : Int), ∃ m, maxD (.int x) (xs.map PyData.int) = .int m ∧ (x :: xs).max? = some m
  | [], x => ⟨x, rfl, rfl⟩
  | y :: xs, x => by
    have e : maxD (.int x) ((y :: xs).map PyData.int) = maxD (if dataLt (.int x) (.int y) then PyData.int y else .int x) (xs.map PyData.int) := rfl
    rw [e, dataLt_int]
    by_cases h : x < y
    · obtain ⟨m, h1, h2⟩ := maxD_ints xs y
      refine ⟨m, by simpa [h] using h1, ?_⟩
      rw [List.max?_cons'] at h2 ⊢
      rw [List.foldl_cons, show max x y = y by omega]
      exact h2
    · obtain ⟨m, h1, h2⟩ := maxD_ints xs x
      refine ⟨m, by simpa [h] using h1, ?_⟩
      rw [List.max?_cons'] at h2 ⊢
      rw [List.foldl_cons, show max x y = x by omega]
      exact h2
theorem call_maxdI {X : Cx} (hc : X.calm = true) (hu : X.A.units + 64 < cLine) : CallRK X (.builtin "max") ["default"] (fun vs zs H Q => ∃ (a : Addr) (ns : List Int) (j : Int), vs = [V.ref a] ∧ zs = [V.int j] ∧ SqL X.K H a (ns.map V.int) ∧ Q (.int (maxO ns j)) H) := by
  intro pins s σ H vs zs us ws Q I r rz h
  obtain ⟨a, ns, j, rfl, rfl, hs, q⟩ := h
  obtain ⟨its, rv, hl, _⟩ := I.list hs
  rw [Vals.ref1 r]
  obtain ⟨w, rfl, rw1⟩ := vals1 rz
  obtain ⟨t, rfl⟩ := rw1
  have hi := rv.ints
  have hA : AlikeAll (ns.map PyData.int) := ⟨fun x hx y hy => by
    obtain ⟨i, _, rfl⟩ := List.mem_map.mp hx
    obtain ⟨k, _, rfl⟩ := List.mem_map.mp hy
    rfl, fun x hx => by
    obtain ⟨i, _, rfl⟩ := List.mem_map.mp hx
    exact fun z => nomatch z⟩
  show wpAny _ _ (call (.builtin "max") [.ref a] [(Str.ofString "default", .int j t)]) _ _ _
  refine max_list_default (I.ok.hd hc) hl.isList (by simpa using hi.reads s.heap) hA (by rw [depth_ints]; omega) (fun e h' tk hk => ?_) (fun y ys i v h' tk bs e hv hr hk => ?_)
  · have e' : ns = [] := by simpa using e
    subst e'
    exact ⟨.int j, H, I.kept hk, ⟨t, rfl⟩, q⟩
  · cases ns with
    | nil => cases e
    | cons n ns =>
      cases e
      obtain ⟨m, h1, h2⟩ := maxD_ints ns n
      rw [h1] at hr
      cases hr with
      | int t' =>
      refine ⟨.int m, H, I.kept hk, ⟨_, rfl⟩, ?_⟩
      unfold maxO at q
      rw [h2] at q
      exact q
theorem d_maxd (hc : X.calm = true) (hu : X.A.units + 64 < cLine) (hg : Gl X "max") (hm : X.mg "max" = none) (ha : DE X E e f) (hb : DE X E e2 g) (he : backTo pos (starEach [e] X.env) = (false, eval e X.env) :: backTo pos (starEach [] X.env) := by rfl) (hpl : (backTo pos (starEach [e] X.env)).any (·.1) = false := by rfl)
    (hall : (backToKw pos (keywordEach [⟨some "default", e2, kpos⟩] X.env)).all (·.1.isSome) = true := by rfl) (hnone : (backToKw pos (keywordEach [⟨some "default", e2, kpos⟩] X.env)).any (·.1.isNone) = false := by rfl) (hks : (backToKw pos (keywordEach [⟨some "default", e2, kpos⟩] X.env)).filterMap (·.1) = (["default"] : List Str) := by rfl) (hs : starEach [e] X.env = (false, eval e X.env) :: starEach [] X.env := by rfl) :
    DE X E (.Call (.Name "max" p) [e] [⟨some "default", e2, kpos⟩] pos) (maxdE f g) :=
  PE.conv (pe_callBK (call_maxdI hc hu) hg hm (by decide +kernel) (pa_cons ha pa_nil hs) (pk_cons hb pk_nil) (he := he) (hpl := hpl) (hall := hall) (hnone := hnone) (hks := hks)) fun σ H Q ⟨ι, env, ms, r, ev, o⟩ => by
    refine tR_seq r ev o fun ι1 H1 ms1 d x B1 o1 => ?_
    refine tR_seq B1.rel B1.env o1 fun ι2 H2 ms2 k z B2 o2 => ?_
    cases k with
    | int j =>
      dsimp only at o2
      have ez : z = .int j := B2.r
      subst ez
      cases c1 : rlOf ms2 d with
      | none => simp only [c1, Option.bind_none] at o2; exact o2.elim
      | some xs =>
        cases c2 : intsOf xs with
        | none => simp only [c1, Option.bind_some, c2] at o2; exact o2.elim
        | some ns =>
          simp only [c1, Option.bind_some, c2] at o2
          obtain ⟨a, ys, rfl, rs, hq⟩ := B2.rel.rl c1 (Rp.mono B2.le _ _ B1.r)
          rw [ints_rp c2 rs] at hq
          exact ⟨a, ns, j, rfl, rfl, hq, o2 _ ι2 H2 B2.rel .refl rfl⟩
    | _ => exact o2.elim
/-! ### text.split(sign) -/
@[simp] def splitE (fo fe : Env → MS → Res D) (env : Env) (ms : MS) : Res D := (fo env ms).bind fun o ms1 => match o with
  | .str a => (fe env ms1).bind fun d ms2 => match d with
    | .str b => if (b.length == 0) = false ∧ a.length + 2 ≤ 16777216 then .ok (.lst ((Txt.split a b).map D.str)) ms2 else .bad
    | _ => .bad
  | _ => .bad
theorem rps_strs {K : PySem.W.Frag} {ι : Ct} {H : Hp} : ∀ {xs : List Str}, Rps K ι H (xs.map D.str) (xs.map V.str)
  | [] => rfl
  | n :: ns => ⟨_, _, rfl, rfl, rps_strs⟩
theorem d_split (ho : DE X E o fo) (he : DE X E e fe) (hs : starEach [e] X.env = [(false, eval e X.env)] := by rfl) (hbase : attributeBase o "split" X.env (eval o X.env) = eval o X.env := by rfl) (hline : (apos.endLine == pos.line) = true := by rfl) :
    DE X E (.Call (.Attribute o "split" apos) [e] [] pos) (splitE fo fe) :=
  PE.conv (pe_split (apos := apos) (pos := pos) ho he hs hbase hline) fun σ H Q ⟨ι, env, ms, r, ev, o⟩ => by
    refine tR_seq r ev o fun ι1 H1 ms1 d x B o1 => ?_
    cases d with
    | str a =>
      dsimp only at o1
      have ex : x = .str a := B.r
      subst ex
      refine ⟨⟨a, rfl⟩, ?_⟩
      refine tR_seq B.rel B.env o1 fun ι2 H2 ms2 k z B2 o2 => ?_
      cases k with
      | str b =>
        dsimp only at o2
        have ez : z = .str b := B2.r
        subst ez
        by_cases hl : (b.length == 0) = false ∧ a.length + 2 ≤ 16777216
        · rw [if_pos hl] at o2
          refine ⟨a, b, rfl, rfl, hl.1, by rw [sizeLine_eq]; exact hl.2, fun p hp => ?_⟩
          exact o2 _ ι2 _ (B2.rel.new hp) (Le.new B2.rel hp) ⟨p, (Txt.split a b).map V.str, rfl, upd_same, B2.rel.fresh hp, rps_strs⟩
        · rw [if_neg hl] at o2; exact o2.elim
      | _ => exact o2.elim
    | _ => exact o1.elim
end
end DL

set_option maxHeartbeats 2000000
namespace LW
open PySem PySem.Spec L2 DL
open PyProof.Rows hiding St

/-! ### a web: what its cells hold -/
abbrev Tie := Int × Int × Str × Int
abbrev Stand := List Int × List Tie × Int × Int
structure Web where
  mp : Int
  mt : Int
  ps : List Int
  ts : List Tie
  np : Int
  nt : Int
  mks : List Stand
def Web.stand (W : Web) : Stand := (W.ps, W.ts, W.np, W.nt)
def tieD (t : Tie) : D := .tup [.int t.1, .int t.2.1, .str t.2.2.1, .int t.2.2.2]
def endD (t : Tie) : D := .tup [.int t.2.1, .str t.2.2.1, .int t.2.2.2]
def standD (s : Stand) : D := .tup [.lst (s.1.map .int), .lst (s.2.1.map tieD), .int s.2.2.1, .int s.2.2.2]
def plK (ps : List Int) : List (Key × D) := ps.map fun p => (Sum.inl p, D.bl true)
def tiK (ts : List Tie) : List (Key × D) := ts.map fun t => (Sum.inl t.1, endD t)
def webF (W : Web) (a b c : Nat) : List (Str × D) := [("_most_places", .int W.mp), ("_most_ties", .int W.mt), ("_places", .ptr a), ("_ties", .ptr b), ("_next_place", .int W.np), ("_next_tie", .int W.nt), ("_marks", .ptr c)]
structure WebAt (ms : MS) (w a b c : Nat) (W : Web) : Prop where
  o : ms[w]? = some (.obj "Web" (webF W a b c))
  p : ms[a]? = some (.dK (plK W.ps))
  t : ms[b]? = some (.dK (tiK W.ts))
  m : ms[c]? = some (.lst (W.mks.map standD))
  wa : w ≠ a
  wb : w ≠ b
  wc : w ≠ c
  ab : a ≠ b
  ac : a ≠ c
  bc : b ≠ c
/-- places and ties as they may stand -/
structure StOk (s : Stand) : Prop where
  pr : s.1.Pairwise (· < ·)
  pl : ∀ p ∈ s.1, 0 ≤ p ∧ p < s.2.2.1
  tr : (s.2.1.map (·.1)).Pairwise (· < ·)
  tl : ∀ t ∈ s.2.1, 0 ≤ t.1 ∧ t.1 < s.2.2.2
  te : ∀ t ∈ s.2.1, t.2.1 ∈ s.1 ∧ t.2.2.2 ∈ s.1
  n0 : 0 ≤ s.2.2.1
  t0 : 0 ≤ s.2.2.2
  few : s.1.length ≤ 1000 ∧ s.2.1.length ≤ 1000
structure WOk (W : Web) : Prop where
  st : StOk W.stand
  mok : ∀ s ∈ W.mks, StOk s
  many : W.mks.length ≤ 10000
section
variable {W : Web} {a b c : Nat}
theorem lk_no {x : Str} (h : ((["_most_places", "_most_ties", "_places", "_ties", "_next_place", "_next_tie", "_marks"] : List Str).all fun f => !(x == f)) = true) : (webF W a b c).lookup x = none := by
  simp only [List.all_cons, List.all_nil, Bool.and_true, Bool.and_eq_true, Bool.not_eq_true'] at h
  obtain ⟨h1, h2, h3, h4, h5, h6, h7⟩ := h
  simp [webF, List.lookup, h1, h2, h3, h4, h5, h6, h7]
theorem str_ne {x y : Str} (h : (x == y) = false) : x ≠ y := fun e => by rw [e, beq_self_eq_true] at h; cases h
@[simp] theorem lk_mp : (webF W a b c).lookup ("_most_places" : Str) = some (.int W.mp) := by simp [webF, List.lookup]
@[simp] theorem lk_mt : (webF W a b c).lookup ("_most_ties" : Str) = some (.int W.mt) := by
  have h1 : (("_most_ties" : Str) == "_most_places") = false := by decide +kernel
  simp [webF, List.lookup, h1]
@[simp] theorem lk_ps : (webF W a b c).lookup ("_places" : Str) = some (.ptr a) := by
  have h1 : (("_places" : Str) == "_most_places") = false := by decide +kernel
  have h2 : (("_places" : Str) == "_most_ties") = false := by decide +kernel
  simp [webF, List.lookup, h1, h2]
@[simp] theorem lk_ts : (webF W a b c).lookup ("_ties" : Str) = some (.ptr b) := by
  have h1 : (("_ties" : Str) == "_most_places") = false := by decide +kernel
  have h2 : (("_ties" : Str) == "_most_ties") = false := by decide +kernel
  have h3 : (("_ties" : Str) == "_places") = false := by decide +kernel
  simp [webF, List.lookup, h1, h2, h3]
@[simp] theorem lk_np : (webF W a b c).lookup ("_next_place" : Str) = some (.int W.np) := by
  have h1 : (("_next_place" : Str) == "_most_places") = false := by decide +kernel
  have h2 : (("_next_place" : Str) == "_most_ties") = false := by decide +kernel
  have h3 : (("_next_place" : Str) == "_places") = false := by decide +kernel
  have h4 : (("_next_place" : Str) == "_ties") = false := by decide +kernel
  simp [webF, List.lookup, h1, h2, h3, h4]
@[simp] theorem lk_nt : (webF W a b c).lookup ("_next_tie" : Str) = some (.int W.nt) := by
  have h1 : (("_next_tie" : Str) == "_most_places") = false := by decide +kernel
  have h2 : (("_next_tie" : Str) == "_most_ties") = false := by decide +kernel
  have h3 : (("_next_tie" : Str) == "_places") = false := by decide +kernel
  have h4 : (("_next_tie" : Str) == "_ties") = false := by decide +kernel
  have h5 : (("_next_tie" : Str) == "_next_place") = false := by decide +kernel
  simp [webF, List.lookup, h1, h2, h3, h4, h5]
@[simp] theorem lk_mk : (webF W a b c).lookup ("_marks" : Str) = some (.ptr c) := by
  have h1 : (("_marks" : Str) == "_most_places") = false := by decide +kernel
  have h2 : (("_marks" : Str) == "_most_ties") = false := by decide +kernel
  have h3 : (("_marks" : Str) == "_places") = false := by decide +kernel
  have h4 : (("_marks" : Str) == "_ties") = false := by decide +kernel
  have h5 : (("_marks" : Str) == "_next_place") = false := by decide +kernel
  have h6 : (("_marks" : Str) == "_next_tie") = false := by decide +kernel
  simp [webF, List.lookup, h1, h2, h3, h4, h5, h6]
@[simp] theorem lm1 : (webF W a b c).lookup ("places" : Str) = none := lk_no (by decide +kernel)
@[simp] theorem lm2 : (webF W a b c).lookup ("ties" : Str) = none := lk_no (by decide +kernel)
@[simp] theorem lm3 : (webF W a b c).lookup ("stand" : Str) = none := lk_no (by decide +kernel)
@[simp] theorem lm4 : (webF W a b c).lookup ("put_back" : Str) = none := lk_no (by decide +kernel)
@[simp] theorem lm5 : (webF W a b c).lookup ("_need_place" : Str) = none := lk_no (by decide +kernel)
@[simp] theorem lm6 : (webF W a b c).lookup ("_need_tie" : Str) = none := lk_no (by decide +kernel)
@[simp] theorem lm7 : (webF W a b c).lookup ("ties_at" : Str) = none := lk_no (by decide +kernel)
@[simp] theorem lm8 : (webF W a b c).lookup ("place" : Str) = none := lk_no (by decide +kernel)
@[simp] theorem lm9 : (webF W a b c).lookup ("tie" : Str) = none := lk_no (by decide +kernel)
@[simp] theorem lm10 : (webF W a b c).lookup ("cut" : Str) = none := lk_no (by decide +kernel)
@[simp] theorem lm11 : (webF W a b c).lookup ("drop" : Str) = none := lk_no (by decide +kernel)
@[simp] theorem lm12 : (webF W a b c).lookup ("mark" : Str) = none := lk_no (by decide +kernel)
@[simp] theorem lm13 : (webF W a b c).lookup ("undo" : Str) = none := lk_no (by decide +kernel)
@[simp] theorem lm14 : (webF W a b c).lookup ("ends_of" : Str) = none := lk_no (by decide +kernel)
@[simp] theorem lm15 : (webF W a b c).lookup ("__len__" : Str) = none := lk_no (by decide +kernel)
@[simp] theorem wf_len : (webF W a b c).length = 7 := rfl
@[simp] theorem pf_np {v : Int} : putFD "_next_place" (.int v) (webF W a b c) = webF { W with np := v } a b c := by
  have h1 := str_ne (x := "_most_places") (y := "_next_place") (by decide +kernel)
  have h2 := str_ne (x := "_most_ties") (y := "_next_place") (by decide +kernel)
  have h3 := str_ne (x := "_places") (y := "_next_place") (by decide +kernel)
  have h4 := str_ne (x := "_ties") (y := "_next_place") (by decide +kernel)
  simp [webF, putFD, h1, h2, h3, h4]
@[simp] theorem pf_nt {v : Int} : putFD "_next_tie" (.int v) (webF W a b c) = webF { W with nt := v } a b c := by
  have h1 := str_ne (x := "_most_places") (y := "_next_tie") (by decide +kernel)
  have h2 := str_ne (x := "_most_ties") (y := "_next_tie") (by decide +kernel)
  have h3 := str_ne (x := "_places") (y := "_next_tie") (by decide +kernel)
  have h4 := str_ne (x := "_ties") (y := "_next_tie") (by decide +kernel)
  have h5 := str_ne (x := "_next_place") (y := "_next_tie") (by decide +kernel)
  simp [webF, putFD, h1, h2, h3, h4, h5]
@[simp] theorem pf_ps {n : Nat} : putFD "_places" (.ptr n) (webF W a b c) = webF W n b c := by
  have h1 := str_ne (x := "_most_places") (y := "_places") (by decide +kernel)
  have h2 := str_ne (x := "_most_ties") (y := "_places") (by decide +kernel)
  simp [webF, putFD, h1, h2]
@[simp] theorem pf_ts {n : Nat} : putFD "_ties" (.ptr n) (webF W a b c) = webF W a n c := by
  have h1 := str_ne (x := "_most_places") (y := "_ties") (by decide +kernel)
  have h2 := str_ne (x := "_most_ties") (y := "_ties") (by decide +kernel)
  have h3 := str_ne (x := "_places") (y := "_ties") (by decide +kernel)
  simp [webF, putFD, h1, h2, h3]
end
/-! ### its dicts -/
theorem rise_same {l : List Int} (h : l.Pairwise (· < ·)) : rise l = l := by
  unfold rise
  refine List.mergeSort_of_pairwise ?_
  exact h.imp fun {a b} hab => by simp; omega
theorem keys_pl (ps : List Int) : keysI (plK ps) = some ps := by
  induction ps with
  | nil => rfl
  | cons p ps ih =>
    unfold plK at ih ⊢
    rw [List.map_cons]
    unfold keysI
    rw [ih]
    first | rfl | simp
theorem keys_ti (ts : List Tie) : keysI (tiK ts) = some (ts.map (·.1)) := by
  induction ts with
  | nil => rfl
  | cons p ps ih =>
    unfold tiK at ih ⊢
    rw [List.map_cons]
    unfold keysI
    rw [ih]
    first | rfl | simp
theorem val_pl (ps : List Int) (p : Int) : valD (plK ps) (.inl p) = if p ∈ ps then some (.bl true) else none := by
  induction ps with
  | nil => rfl
  | cons q ps ih =>
    unfold valD plK at ih ⊢
    rw [List.map_cons, List.find?_cons]
    by_cases h : q = p
    · subst h; simp
    · have h' : (decide ((Sum.inl q : Key) = Sum.inl p)) = false := by simp [h]
      simp only [h']
      rw [ih]
      simp [Ne.symm h]
theorem drop_pl (ps : List Int) (p : Int) : dropD (plK ps) (.inl p) = plK (ps.filter fun q => decide (q ≠ p)) := by
  unfold dropD plK
  rw [List.filter_map]
  congr 1
  refine List.filter_congr fun q _ => ?_
  simp
theorem put_pl {ps : List Int} {p : Int} (h : p ∉ ps) : putD (plK ps) (.inl p) (.bl true) = plK (ps ++ [p]) := by
  unfold putD
  rw [val_pl, if_neg h]
  simp [plK]
theorem val_ti {ts : List Tie} (hn : (ts.map (·.1)).Pairwise (· < ·)) {t : Tie} (h : t ∈ ts) : valD (tiK ts) (.inl t.1) = some (endD t) := by
  induction ts with
  | nil => cases h
  | cons s ts ih =>
    rw [List.map_cons, List.pairwise_cons] at hn
    unfold valD tiK at ih ⊢
    rw [List.map_cons, List.find?_cons]
    rcases List.mem_cons.mp h with rfl | h
    · simp
    · have hne : s.1 ≠ t.1 := by have := hn.1 t.1 (List.mem_map_of_mem h); omega
      have h' : (decide ((Sum.inl s.1 : Key) = Sum.inl t.1)) = false := by simp [hne]
      simp only [h']
      exact ih hn.2 h
theorem val_no {ts : List Tie} {k : Int} (h : k ∉ ts.map (·.1)) : valD (tiK ts) (.inl k) = none := by
  induction ts with
  | nil => rfl
  | cons s ts ih =>
    rw [List.map_cons, List.mem_cons, not_or] at h
    unfold valD tiK at ih ⊢
    rw [List.map_cons, List.find?_cons]
    have h' : (decide ((Sum.inl s.1 : Key) = Sum.inl k)) = false := by simp [Ne.symm h.1]
    simp only [h']
    exact ih h.2
theorem drop_ti (ts : List Tie) (k : Int) : dropD (tiK ts) (.inl k) = tiK (ts.filter fun t => decide (t.1 ≠ k)) := by
  unfold dropD tiK
  rw [List.filter_map]
  congr 1
  refine List.filter_congr fun q _ => ?_
  simp
theorem put_ti {ts : List Tie} {t : Tie} (h : t.1 ∉ ts.map (·.1)) : putD (tiK ts) (.inl t.1) (endD t) = tiK (ts ++ [t]) := by
  unfold putD
  rw [val_no h]
  simp [tiK]
/-! ### comprehensions over things -/
theorem comp_zip {α : Type} {nx : Nat → MS → WOut} {step : D → MS → Res (Option D)} (l : List α) (it out : α → D) {ms : MS} (hnx : ∀ i, nx i ms = nxOf (some (l.map it)) i) (hz : l.length ≤ LIM) (hs : ∀ x, x ∈ l → step (it x) ms = .ok (some (out x)) ms) {n : Nat} (hn : l.length < n) :
    compLoop nx step n 0 [] ms = .ok (l.map out) ms := by
  obtain ⟨a, ms1, e, ha, hm⟩ := comp_inv (nx := nx) (step := step) (l.map it) (fun i acc m => acc = (l.take i).map out ∧ m = ms) (fun i acc m _ hI => by rw [hI.2]; exact hnx i) (fun i acc m hi hI => by rw [hI.1]; simp; omega) (by simpa using hz)
    (fun i x acc m hx hI => by
      rw [List.getElem?_map] at hx
      cases q : l[i]? with
      | none => rw [q] at hx; cases hx
      | some y =>
        rw [q] at hx
        cases hx
        rw [hI.2, hs y (List.mem_of_getElem? q)]
        refine OK.pure ⟨?_, rfl⟩
        rw [hI.1, List.take_add_one, q, List.map_append]
        rfl) n 0 [] ms (by simp; omega) (by simp) ⟨by simp, rfl⟩
  rw [e, hm, ha, List.length_map, List.take_length]
theorem comp_zipf {α : Type} {nx : Nat → MS → WOut} {step : D → MS → Res (Option D)} (l : List α) (it : α → D) (out : α → Option D) {ms : MS} (hnx : ∀ i, nx i ms = nxOf (some (l.map it)) i) (hz : l.length ≤ LIM) (hs : ∀ x, x ∈ l → step (it x) ms = .ok (out x) ms) {n : Nat} (hn : l.length < n) :
    compLoop nx step n 0 [] ms = .ok (l.filterMap out) ms := by
  obtain ⟨a, ms1, e, ha, hm⟩ := comp_inv (nx := nx) (step := step) (l.map it) (fun i acc m => acc = (l.take i).filterMap out ∧ m = ms) (fun i acc m _ hI => by rw [hI.2]; exact hnx i) (fun i acc m hi hI => by rw [hI.1]; exact Nat.le_trans (List.length_filterMap_le ..) (by simp at hi ⊢; omega)) (by simpa using hz)
    (fun i x acc m hx hI => by
      rw [List.getElem?_map] at hx
      cases q : l[i]? with
      | none => rw [q] at hx; cases hx
      | some y =>
        rw [q] at hx
        cases hx
        rw [hI.2, hs y (List.mem_of_getElem? q)]
        cases z : out y with
        | none =>
          refine OK.pure ⟨?_, rfl⟩
          rw [hI.1, List.take_add_one, q, List.filterMap_append]
          simp [z]
        | some d =>
          refine OK.pure ⟨?_, rfl⟩
          rw [hI.1, List.take_add_one, q, List.filterMap_append]
          simp [z]) n 0 [] ms (by simp; omega) (by simp) ⟨by simp, rfl⟩
  rw [e, hm, ha, List.length_map, List.take_length]
/-- those that pass, as they are -/
theorem filt_map {α : Type} (l : List α) (p : α → Bool) (it : α → D) : (l.filterMap fun x => if p x = true then some (it x) else none) = (l.filter p).map it := by
  induction l with
  | nil => rfl
  | cons x l ih =>
    rw [List.filterMap_cons, List.filter_cons]
    cases h : p x <;> simp [ih]
/-! ### a dict made anew -/
theorem put_len (fs : List (Key × D)) (k : Key) (d : D) : (putD fs k d).length ≤ fs.length + 1 := by
  unfold putD
  split <;> simp
theorem dc_list {nx : Nat → MS → WOut} {step : D → MS → Res (Option (D × D))} {c : Nat} {ms : MS} (items : List D) (f : D → D × D) (kf : D → Key) (hnx : ∀ i m, nx i m = nxOf (some items) i) (hc : c < ms.length)
    (hs : ∀ d, d ∈ items → ∀ fs, step d (ms.set c (.dK fs)) = .ok (some (f d)) (ms.set c (.dK fs))) (hk : ∀ d, d ∈ items → keyOf (f d).1 = some (kf d)) :
    ∀ (n i : Nat) (fs : List (Key × D)), items.length - i < n → i ≤ items.length → fs.length + (items.length - i) < LIM →
      dcLoop nx step c n i (ms.set c (.dK fs)) = .ok () (ms.set c (.dK ((items.drop i).foldl (fun fs d => putD fs (kf d) (f d).2) fs)))
  | 0, i, fs, h, _, _ => absurd h (Nat.not_lt_zero _)
  | n + 1, i, fs, h, hi, hl => by
    unfold dcLoop
    rw [hnx]
    by_cases he : i < items.length
    · have e1 : nxOf (some items) i = .item items[i] := by
        unfold nxOf
        simp [he]
      rw [e1]
      simp only []
      rw [hs _ (List.getElem_mem he)]
      have e2 : cellK (ms.set c (.dK fs)) (.ptr c) = some (c, fs) := by
        unfold cellK
        simp [List.getElem?_set_self hc]
      simp only [bind_ok]
      rw [hk _ (List.getElem_mem he), e2]
      simp only []
      rw [if_pos (by omega), List.set_set, dc_list items f kf hnx hc hs hk n (i + 1) _ (by omega) (by omega) (by have := put_len fs (kf items[i]) (f items[i]).2; omega)]
      rw [List.drop_eq_getElem_cons he, List.foldl_cons]
    · have e1 : nxOf (some items) i = .stop := by
        unfold nxOf
        simp [he]
      rw [e1]
      simp only []
      rw [List.drop_eq_nil_of_le (by omega)]
      rfl
theorem fold_put {α : Type} (l : List α) (k : α → Int) (z : α → D) : ∀ fs : List (Key × D), (∀ x ∈ l, valD fs (.inl (k x)) = none) → (l.map k).Pairwise (· < ·) → l.foldl (fun fs x => putD fs (.inl (k x)) (z x)) fs = fs ++ l.map fun x => (Sum.inl (k x), z x) := by
  induction l with
  | nil => intro fs _ _; simp
  | cons x l ih =>
    intro fs h hp
    rw [List.map_cons, List.pairwise_cons] at hp
    rw [List.foldl_cons]
    have e : putD fs (.inl (k x)) (z x) = fs ++ [(Sum.inl (k x), z x)] := by
      unfold putD
      rw [h x (List.mem_cons_self ..)]
      rfl
    rw [e, ih _ (fun y hy => ?_) hp.2]
    · simp
    · have h1 := h y (List.mem_cons_of_mem _ hy)
      have h2 : k x ≠ k y := by have := hp.1 (k y) (List.mem_map_of_mem hy); omega
      unfold valD at h1 ⊢
      rw [List.find?_append]
      cases q : fs.find? (fun kv => decide (kv.1 = Sum.inl (k y))) with
      | some v => rw [q] at h1; cases h1
      | none => simp [h2]
end LW

set_option maxHeartbeats 2000000
namespace LW
open PySem PySem.Spec L2 DL
open PyProof.Rows hiding St
def c_FIGURES : D := .str "0123456789"
def c_LONGEST_NAME : D := .int 8
def c_MOST_FIGURES : D := .int 50
def c_MOST_PLACES : D := .int 60
def c_MOST_TIES : D := .int 200
def c_SMALL_LETTERS : D := .str "abcdefghijklmnopqrstuvwxyz"
def dv_Web___init__ : List D := [.int 60, .int 200]
def L_exn : List Str := ["Full", "NoMark", "NoName", "NoPlace", "NoTie", "Tied"]
def L_NoMark : List Str := ["NoName", "NoPlace", "NoTie", "Tied"]
noncomputable def B__law_bag : SF := (seqS (setS 1 (cE (.int 19)))
  (seqS (forS (lstSrc (sliceE mkLst (varE 0) nonO (someO (cE (.int 63))))) (nameT 2) (setS 1 (binE (binE (binE (binE (varE 1) (cE (.int 48271)) mulD) (binE (varE 2) (cE (.int 2147483629)) modD) addD) (cE (.int 1)) addD) (cE (.int 2147483647)) modD)))
  (retS (appE (consA (compE endL (lstSrc (sliceE mkLst (varE 0) nonO (someO (cE (.int 63))))) (nameT 2) yesT (binE (appE (consA (varE 2) nilA) absP) (binE (binE (cE (.int 10)) (cE (.int 60)) powD) (cE (.int 10)) powD) modD) [2]) (consA (cE (.int 0)) (consA (cE (.int 0)) (consA (varE 1) (consA (cE (.int 0)) nilA))))) mkMut))))
noncomputable def sem__law_bag : List D → MS → Res D := shut (runF 3 B__law_bag)
theorem sem__law_bag_eq : sem__law_bag = runF 3 B__law_bag := shut_eq _
noncomputable def B__law_stirred : SF := (seqS (setS 2 (cE (.int 0)))
  (seqS (forS (rngSrc1 (binE (cE (.int 1)) (binE (unE (varE 1) bitsP) (cE (.int 27)) divD) addD)) (nameT 3) (seqS (asgS (binE (binE (varE 0) (cE (.int 4)) idxD) (cE (.int 1)) addD) (subT (varE 0) (cE (.int 4))))
  (seqS (asgS (binE (binE (binE (binE (binE (binE (varE 0) (cE (.int 3)) idxD) (cE (.int 3)) powD) (binE (cE (.int 69621)) (binE (varE 0) (cE (.int 3)) idxD) mulD) addD) (binE (cE (.int 1031)) (binE (varE 0) (cE (.int 4)) idxD) mulD) addD) (cE (.int 1)) addD) (cE (.int 2147483647)) modD) (subT (varE 0) (cE (.int 3))))
  (setS 2 (binE (binE (varE 2) (cE (.int 134217728)) mulD) (binE (binE (varE 0) (cE (.int 3)) idxD) (cE (.int 16)) divD) addD)))))
  (retS (binE (varE 2) (varE 1) modD))))
noncomputable def sem__law_stirred : List D → MS → Res D := shut (runF 4 B__law_stirred)
theorem sem__law_stirred_eq : sem__law_stirred = runF 4 B__law_stirred := shut_eq _
noncomputable def B__law_draw : SF := (seqS (ifS (andT (valT (binE (binE (varE 0) (cE (.int 2)) idxD) (cE (.int 0)) eqD)) (valT (binE (binE (varE 0) (cE (.int 1)) idxD) (appE (consA (binE (varE 0) (cE (.int 0)) idxD) nilA) lenP) ltD))) (seqS (asgS (binE (binE (varE 0) (cE (.int 0)) idxD) (binE (varE 0) (cE (.int 1)) idxD) idxD) (subT (varE 0) (cE (.int 2))))
  (asgS (binE (binE (varE 0) (cE (.int 1)) idxD) (cE (.int 1)) addD) (subT (varE 0) (cE (.int 1))))) (ifS (valT (binE (binE (varE 0) (cE (.int 2)) idxD) (cE (.int 0)) eqD)) (retS (appE (consA (varE 0) (consA (varE 1) nilA)) (callP 2 sem__law_stirred))) skipS))
  (seqS (setS 2 (binE (binE (varE 0) (cE (.int 2)) idxD) (varE 1) modD))
  (seqS (asgS (binE (binE (varE 0) (cE (.int 2)) idxD) (varE 1) divD) (subT (varE 0) (cE (.int 2))))
  (retS (varE 2)))))
noncomputable def sem__law_draw : List D → MS → Res D := shut (runF 3 B__law_draw)
theorem sem__law_draw_eq : sem__law_draw = runF 3 B__law_draw := shut_eq _
noncomputable def B__law_name : SF := (seqS (setS 1 (appE (consA (varE 0) (consA (cE (.int 4)) nilA)) (callP 2 sem__law_draw)))
  (seqS (ifS (valT (binE (varE 1) (cE (.int 0)) eqD)) (retS (binE (cE (.str "abz")) (appE (consA (varE 0) (consA (cE (.int 3)) nilA)) (callP 2 sem__law_draw)) idxD)) skipS)
  (seqS (ifS (valT (binE (varE 1) (cE (.int 1)) eqD)) (retS (binE (appE (consA (cE (.str "from")) (consA (cE (.str "any")) (consA (cE (.str "name")) (consA (cE (.str "back")) (consA (cE (.str "none")) (consA (cE (.str "then")) (consA (cE (.str "or")) (consA (cE (.str "way")) (consA (cE (.str "on")) nilA))))))))) mkLst) (appE (consA (varE 0) (consA (cE (.int 9)) nilA)) (callP 2 sem__law_draw)) idxD)) skipS)
  (seqS (ifS (valT (binE (varE 1) (cE (.int 2)) eqD)) (retS (sliceE mkLst (cE (.str "aaaaaaab")) (someO (appE (consA (varE 0) (consA (cE (.int 8)) nilA)) (callP 2 sem__law_draw))) nonO)) skipS)
  (retS (joinE (cE (.str "")) (compE endL (rngSrc1 (binE (cE (.int 1)) (appE (consA (varE 0) (consA (cE (.int 8)) nilA)) (callP 2 sem__law_draw)) addD)) (nameT 2) yesT (binE (cE (.str "abcdefghijklmnopqrstuvwxyz")) (appE (consA (varE 0) (consA (cE (.int 26)) nilA)) (callP 2 sem__law_draw)) idxD) [2])))))))
noncomputable def sem__law_name : List D → MS → Res D := shut (runF 3 B__law_name)
theorem sem__law_name_eq : sem__law_name = runF 3 B__law_name := shut_eq _
noncomputable def B__law_web : SF := (seqS (setS 4 (appE nilA mkMut))
  (seqS (setS 5 (cE (.int 0)))
  (seqS (forS (rngSrc1 (varE 1)) (nameT 6) (seqS (setS 5 (binE (varE 5) (appE (consA (varE 0) (consA (binE (appE (consA (cE (.int 1)) (consA (cE (.int 1)) (consA (cE (.int 3)) (consA (binE (cE (.int 10)) (cE (.int 10)) powD) nilA)))) mkLst) (varE 3) idxD) nilA)) (callP 2 sem__law_draw)) addD))
  (seqS (dropS (appM (varE 4) (varE 5)))
  (setS 5 (binE (varE 5) (cE (.int 1)) addD)))))
  (seqS (setS 7 (compE endL (rngSrc1 (binE (cE (.int 1)) (appE (consA (varE 0) (consA (cE (.int 4)) nilA)) (callP 2 sem__law_draw)) addD)) (nameT 6) yesT (appE (consA (varE 0) nilA) (callP 1 sem__law_name)) [6]))
  (seqS (setS 8 (appE nilA mkMut))
  (seqS (setS 5 (cE (.int 0)))
  (seqS (forS (rngSrc1 (binE (varE 2) (appE (consA (binE (varE 1) (cE (.int 0)) gtD) nilA) intTP) mulD)) (nameT 6) (seqS (setS 5 (binE (varE 5) (appE (consA (varE 0) (consA (binE (appE (consA (cE (.int 1)) (consA (cE (.int 1)) (consA (cE (.int 3)) (consA (binE (cE (.int 10)) (cE (.int 10)) powD) nilA)))) mkLst) (varE 3) idxD) nilA)) (callP 2 sem__law_draw)) addD))
  (seqS (setS 9 (appE (consA (binE (varE 4) (appE (consA (varE 0) (consA (varE 1) nilA)) (callP 2 sem__law_draw)) idxD) (consA (binE (varE 4) (appE (consA (varE 0) (consA (varE 1) nilA)) (callP 2 sem__law_draw)) idxD) nilA)) mkLst))
  (seqS (dropS (appM (varE 8) (appE (consA (varE 5) (consA (binE (varE 9) (cE (.int 0)) idxD) (consA (binE (varE 7) (appE (consA (varE 0) (consA (appE (consA (varE 7) nilA) lenP) nilA)) (callP 2 sem__law_draw)) idxD) (consA (binE (varE 9) (cE (.int 1)) idxD) nilA)))) mkTup)))
  (setS 5 (binE (varE 5) (cE (.int 1)) addD))))))
  (retS (appE (consA (varE 4) (consA (varE 8) nilA)) mkTup)))))))))
noncomputable def sem__law_web : List D → MS → Res D := shut (runF 10 B__law_web)
theorem sem__law_web_eq : sem__law_web = runF 10 B__law_web := shut_eq _
noncomputable def B__law_web_written : SF := (seqS (setS 2 (compE endM (lstSrc (varE 0)) (nameT 4) yesT (binE (cE (.str "place ")) (appE (consA (varE 4) nilA) strP) addD) [4]))
  (seqS (forS (lstSrc (varE 1)) (nameT 3) (dropS (appM (varE 2) (binE (cE (.str "tie ")) (joinE (cE (.str " ")) (compE endL (tupSrc (varE 3)) (nameT 5) yesT (appE (consA (varE 5) nilA) strP) [5])) addD))))
  (retS (joinE (cE (.str "\n")) (varE 2)))))
noncomputable def sem__law_web_written : List D → MS → Res D := shut (runT 6 B__law_web_written)
theorem sem__law_web_written_eq : sem__law_web_written = runT 6 B__law_web_written := shut_eq _
noncomputable def B_Web___init__ : SF := (seqS (fldS "Web" "_most_places" (varE 0) (varE 1))
  (seqS (fldS "Web" "_most_ties" (varE 0) (varE 2))
  (seqS (fldS "Web" "_places" (varE 0) dnewE)
  (seqS (fldS "Web" "_ties" (varE 0) dnewE)
  (seqS (fldS "Web" "_next_place" (varE 0) (cE (.int 0)))
  (seqS (fldS "Web" "_next_tie" (varE 0) (cE (.int 0)))
  (fldS "Web" "_marks" (varE 0) (appE nilA mkMut))))))))
noncomputable def sem_Web___init__ : List D → MS → Res D := shut (runF 3 B_Web___init__)
theorem sem_Web___init___eq : sem_Web___init__ = runF 3 B_Web___init__ := shut_eq _
noncomputable def B_Web_put_back : SF := (seqS (asgS (varE 1) (tupT 4 (consT (nameT 2) (consT (nameT 3) (consT (fldT "Web" "_next_place" (varE 0)) (consT (fldT "Web" "_next_tie" (varE 0)) nilT))))))
  (seqS (fldS "Web" "_places" (varE 0) (dcompE (lstSrc (varE 2)) (nameT 4) yesT (varE 4) (cE (.bl true)) [4]))
  (fldS "Web" "_ties" (varE 0) (dcompE (lstSrc (varE 3)) (tupT 4 (consT (nameT 5) (consT (nameT 6) (consT (nameT 7) (consT (nameT 8) nilT))))) yesT (varE 5) (appE (consA (varE 6) (consA (varE 7) (consA (varE 8) nilA))) mkTup) [5, 6, 7, 8]))))
noncomputable def sem_Web_put_back : List D → MS → Res D := shut (runF 9 B_Web_put_back)
theorem sem_Web_put_back_eq : sem_Web_put_back = runF 9 B_Web_put_back := shut_eq _
noncomputable def B_read_whole : SF := (seqS (ifS (orT (notT (valT (chE (cE (.int 1)) (appE (consA (varE 0) nilA) lenP) (cE c_MOST_FIGURES) leD leD))) (notT (truT (appE (consA (compE endL (strSrc (varE 0)) (nameT 1) yesT (binE (varE 1) (cE c_FIGURES) (inD false)) [1]) nilA) allP)))) badS skipS)
  (seqS (ifS (andT (valT (binE (binE (varE 0) (cE (.int 0)) idxD) (cE (.str "0")) eqD)) (valT (binE (varE 0) (cE (.str "0")) neD))) badS skipS)
  (retS (appE (consA (varE 0) nilA) intTP))))
noncomputable def sem_read_whole : List D → MS → Res D := shut (runF 2 B_read_whole)
theorem sem_read_whole_eq : sem_read_whole = runF 2 B_read_whole := shut_eq _
noncomputable def B_is_name : SF := (seqS (ifS (notT (valT (chE (cE (.int 1)) (appE (consA (varE 0) nilA) lenP) (cE c_LONGEST_NAME) leD leD))) (retS (cE (.bl false))) skipS)
  (retS (appE (consA (compE endL (strSrc (varE 0)) (nameT 1) yesT (binE (varE 1) (cE c_SMALL_LETTERS) (inD false)) [1]) nilA) allP)))
noncomputable def sem_is_name : List D → MS → Res D := shut (runF 2 B_is_name)
theorem sem_is_name_eq : sem_is_name = runF 2 B_is_name := shut_eq _
noncomputable def B_read_tie : SF := (seqS (asgS (varE 0) (lstT 5 (consT (nameT 1) (consT (nameT 2) (consT (nameT 3) (consT (nameT 4) (consT (nameT 5) nilT)))))))
  (seqS (ifS (notT (truT (appE (consA (varE 4) nilA) (callP 1 sem_is_name)))) badS skipS)
  (retS (appE (consA (appE (consA (varE 2) nilA) (callP 1 sem_read_whole)) (consA (appE (consA (varE 3) nilA) (callP 1 sem_read_whole)) (consA (varE 4) (consA (appE (consA (varE 5) nilA) (callP 1 sem_read_whole)) nilA)))) mkTup))))
noncomputable def sem_read_tie : List D → MS → Res D := shut (runF 6 B_read_tie)
theorem sem_read_tie_eq : sem_read_tie = runF 6 B_read_tie := shut_eq _
noncomputable def B_read_rows : SF := (seqS (setS 1 (appE nilA mkMut))
  (seqS (setS 2 (appE nilA mkMut))
  (seqS (forS (lstSrc (iteE (truT (varE 0)) (splitE (varE 0) (cE (.str "\n"))) (appE nilA mkLst))) (nameT 3) (seqS (setS 4 (splitE (varE 3) (cE (.str " "))))
  (ifS (andT (valT (binE (binE (varE 4) (cE (.int 0)) idxD) (cE (.str "place")) eqD)) (andT (valT (binE (appE (consA (varE 4) nilA) lenP) (cE (.int 2)) eqD)) (notT (truT (varE 2))))) (dropS (appM (varE 1) (appE (consA (binE (varE 4) (cE (.int 1)) idxD) nilA) (callP 1 sem_read_whole)))) (ifS (andT (valT (binE (binE (varE 4) (cE (.int 0)) idxD) (cE (.str "tie")) eqD)) (valT (binE (appE (consA (varE 4) nilA) lenP) (cE (.int 5)) eqD))) (dropS (appM (varE 2) (appE (consA (varE 4) nilA) (callP 1 sem_read_tie)))) badS))))
  (retS (appE (consA (varE 1) (consA (varE 2) nilA)) mkTup)))))
noncomputable def sem_read_rows : List D → MS → Res D := shut (runF 5 B_read_rows)
theorem sem_read_rows_eq : sem_read_rows = runF 5 B_read_rows := shut_eq _
noncomputable def B_rises : SF := (retS (binE (varE 0) (appE (consA (varE 0) nilA) ssetQ) eqD))
noncomputable def sem_rises : List D → MS → Res D := shut (runF 1 B_rises)
theorem sem_rises_eq : sem_rises = runF 1 B_rises := shut_eq _
noncomputable def B_next_number : SF := (retS (binE (maxdE (varE 0) (unE (cE (.int 1)) negD)) (cE (.int 1)) addD))
noncomputable def sem_next_number : List D → MS → Res D := shut (runF 1 B_next_number)
theorem sem_next_number_eq : sem_next_number = runF 1 B_next_number := shut_eq _
noncomputable def B_read_web : SF := (seqS (asgS (appE (consA (varE 0) nilA) (callP 1 sem_read_rows)) (tupT 2 (consT (nameT 1) (consT (nameT 2) nilT))))
  (seqS (setS 3 (compE endL (lstSrc (varE 2)) (nameT 8) yesT (binE (varE 8) (cE (.int 0)) idxD) [8]))
  (seqS (ifS (orT (valT (binE (appE (consA (varE 1) nilA) lenP) (cE c_MOST_PLACES) gtD)) (valT (binE (appE (consA (varE 2) nilA) lenP) (cE c_MOST_TIES) gtD))) badS skipS)
  (seqS (ifS (orT (notT (truT (appE (consA (varE 1) nilA) (callP 1 sem_rises)))) (notT (truT (appE (consA (varE 3) nilA) (callP 1 sem_rises))))) badS skipS)
  (seqS (forS (lstSrc (varE 2)) (tupT 4 (consT (nameT 4) (consT (nameT 5) (consT (nameT 4) (consT (nameT 6) nilT))))) (ifS (orT (valT (binE (varE 5) (varE 1) (inD true))) (valT (binE (varE 6) (varE 1) (inD true)))) badS skipS))
  (seqS (setS 7 (makeE "Web" 3 (constA dv_Web___init__) sem_Web___init__))
  (seqS (dropS (methE "Web" "put_back" (varE 7) (consA (appE (consA (varE 1) (consA (varE 2) (consA (appE (consA (varE 1) nilA) (callP 1 sem_next_number)) (consA (appE (consA (varE 3) nilA) (callP 1 sem_next_number)) nilA)))) mkTup) nilA) (callP 2 sem_Web_put_back)))
  (retS (varE 7)))))))))
noncomputable def sem_read_web : List D → MS → Res D := shut (runF 9 B_read_web)
theorem sem_read_web_eq : sem_read_web = runF 9 B_read_web := shut_eq _
noncomputable def B_Web_undo : SF := (seqS (ifS (notT (valT (chE (cE (.int 0)) (varE 1) (appE (consA (fldE "Web" "_marks" (varE 0)) nilA) lenP) leD ltD))) (raiseS "NoMark" (consA (joinsE [(cE (.str "mark ")), (fmtE (varE 1)), (cE (.str " is not there"))] Str.empty) nilA)) skipS)
  (seqS (dropS (methE "Web" "put_back" (varE 0) (consA (binE (fldE "Web" "_marks" (varE 0)) (varE 1) idxD) nilA) (callP 2 sem_Web_put_back)))
  (delF (fldE "Web" "_marks" (varE 0)) (binE (varE 1) (cE (.int 1)) addD))))
noncomputable def sem_Web_undo : List D → MS → Res D := shut (runF 2 B_Web_undo)
theorem sem_Web_undo_eq : sem_Web_undo = runF 2 B_Web_undo := shut_eq _
noncomputable def B_Web__need_tie : SF := (ifS (valT (dinE true (varE 1) (fldE "Web" "_ties" (varE 0)))) (raiseS "NoTie" (consA (joinsE [(cE (.str "tie ")), (fmtE (varE 1)), (cE (.str " is not there"))] Str.empty) nilA)) skipS)
noncomputable def sem_Web__need_tie : List D → MS → Res D := shut (runF 2 B_Web__need_tie)
theorem sem_Web__need_tie_eq : sem_Web__need_tie = runF 2 B_Web__need_tie := shut_eq _
noncomputable def B_Web_cut : SF := (seqS (dropS (methXE "Web" "_need_tie" (varE 0) (consA (varE 1) nilA) 2 sem_Web__need_tie))
  (ddelS (fldE "Web" "_ties" (varE 0)) (varE 1)))
noncomputable def sem_Web_cut : List D → MS → Res D := shut (runF 2 B_Web_cut)
theorem sem_Web_cut_eq : sem_Web_cut = runF 2 B_Web_cut := shut_eq _
noncomputable def B__law_alike (rec : List D → MS → Res D) : SF := (seqS (ifS (truT (unE (varE 1) (is2P .list .tuple))) (seqS (ifS (orT (notT (truT (unE (varE 0) (is2P .list .tuple)))) (valT (binE (unE (varE 0) (isP .list)) (unE (varE 1) (isP .list)) neD))) (retS (cE (.bl false))) skipS)
  (seqS (ifS (valT (binE (appE (consA (varE 0) nilA) lenP) (appE (consA (varE 1) nilA) lenP) neD)) (retS (cE (.bl false))) skipS)
  (retS (appE (consA (compE endL (rngSrc1 (appE (consA (varE 1) nilA) lenP)) (nameT 2) yesT (appE (consA (binE (varE 0) (varE 2) idxD) (consA (binE (varE 1) (varE 2) idxD) nilA)) (callP 2 rec)) [2]) nilA) allP)))) skipS)
  (seqS (ifS (orT (valT (binE (unE (varE 0) (isP .bool)) (unE (varE 1) (isP .bool)) neD)) (valT (binE (unE (varE 0) (isP .int)) (unE (varE 1) (isP .int)) neD))) (retS (cE (.bl false))) skipS)
  (retS (andV (binE (unE (varE 0) (isP .str)) (unE (varE 1) (isP .str)) eqD) (binE (varE 0) (varE 1) eqD)))))
noncomputable def sem__law_alike : Nat → List D → MS → Res D
  | 0 => fun _ _ => .bad
  | n + 1 => shut (runF 3 (B__law_alike (sem__law_alike n)))
theorem sem__law_alike_eq (n : Nat) : sem__law_alike (n + 1) = runF 3 (B__law_alike (sem__law_alike n)) := shut_eq _
noncomputable def B_Web_places : SF := (retS (appE (consA (fldE "Web" "_places" (varE 0)) nilA) sortM))
noncomputable def sem_Web_places : List D → MS → Res D := shut (runF 1 B_Web_places)
theorem sem_Web_places_eq : sem_Web_places = runF 1 B_Web_places := shut_eq _
noncomputable def B_Web_ties : SF := (retS (compE endM (lstSrc (appE (consA (fldE "Web" "_ties" (varE 0)) nilA) sortQ)) (nameT 1) yesT (appE (consA (varE 1) (starA (dgetE (fldE "Web" "_ties" (varE 0)) (varE 1)) nilA)) mkTup) [1]))
noncomputable def sem_Web_ties : List D → MS → Res D := shut (runF 2 B_Web_ties)
theorem sem_Web_ties_eq : sem_Web_ties = runF 2 B_Web_ties := shut_eq _
noncomputable def B_Web_stand : SF := (retS (appE (consA (methE "Web" "places" (varE 0) nilA (callP 1 sem_Web_places)) (consA (methE "Web" "ties" (varE 0) nilA (callP 1 sem_Web_ties)) (consA (fldE "Web" "_next_place" (varE 0)) (consA (fldE "Web" "_next_tie" (varE 0)) nilA)))) mkTup))
noncomputable def sem_Web_stand : List D → MS → Res D := shut (runT 1 B_Web_stand)
theorem sem_Web_stand_eq : sem_Web_stand = runT 1 B_Web_stand := shut_eq _
noncomputable def B_Web_mark : SF := (seqS (dropS (appM (fldE "Web" "_marks" (varE 0)) (methE "Web" "stand" (varE 0) nilA (callP 1 sem_Web_stand))))
  (retS (binE (appE (consA (fldE "Web" "_marks" (varE 0)) nilA) lenP) (cE (.int 1)) subD)))
noncomputable def sem_Web_mark : List D → MS → Res D := shut (runF 1 B_Web_mark)
theorem sem_Web_mark_eq : sem_Web_mark = runF 1 B_Web_mark := shut_eq _
noncomputable def B_Web__need_place : SF := (ifS (valT (dinE true (varE 1) (fldE "Web" "_places" (varE 0)))) (raiseS "NoPlace" (consA (joinsE [(cE (.str "place ")), (fmtE (varE 1)), (cE (.str " is not there"))] Str.empty) nilA)) skipS)
noncomputable def sem_Web__need_place : List D → MS → Res D := shut (runF 2 B_Web__need_place)
theorem sem_Web__need_place_eq : sem_Web__need_place = runF 2 B_Web__need_place := shut_eq _
noncomputable def B_Web_tie : SF := (seqS (dropS (methXE "Web" "_need_place" (varE 0) (consA (varE 1) nilA) 2 sem_Web__need_place))
  (seqS (dropS (methXE "Web" "_need_place" (varE 0) (consA (varE 3) nilA) 2 sem_Web__need_place))
  (seqS (ifS (notT (truT (appE (consA (varE 2) nilA) (callP 1 sem_is_name)))) (raiseS "NoName" (consA (cE (.str "a name is one to eight small letters")) nilA)) skipS)
  (seqS (ifS (valT (binE (appE (consA (fldE "Web" "_ties" (varE 0)) nilA) lenDP) (fldE "Web" "_most_ties" (varE 0)) geD)) (raiseF "Full" "most" (fldE "Web" "_most_ties" (varE 0))) skipS)
  (seqS (setS 4 (fldE "Web" "_next_tie" (varE 0)))
  (seqS (dputS (appE (consA (varE 1) (consA (varE 2) (consA (varE 3) nilA))) mkTup) (fldE "Web" "_ties" (varE 0)) (varE 4))
  (seqS (fldS "Web" "_next_tie" (varE 0) (binE (varE 4) (cE (.int 1)) addD))
  (retS (varE 4)))))))))
noncomputable def sem_Web_tie : List D → MS → Res D := shut (runF 5 B_Web_tie)
theorem sem_Web_tie_eq : sem_Web_tie = runF 5 B_Web_tie := shut_eq _
noncomputable def B_Web___len__ : SF := (retS (appE (consA (fldE "Web" "_ties" (varE 0)) nilA) lenDP))
noncomputable def sem_Web___len__ : List D → MS → Res D := shut (runF 1 B_Web___len__)
theorem sem_Web___len___eq : sem_Web___len__ = runF 1 B_Web___len__ := shut_eq _
noncomputable def B_Web_place : SF := (seqS (ifS (valT (binE (appE (consA (fldE "Web" "_places" (varE 0)) nilA) lenDP) (fldE "Web" "_most_places" (varE 0)) geD)) (raiseF "Full" "most" (fldE "Web" "_most_places" (varE 0))) skipS)
  (seqS (setS 1 (fldE "Web" "_next_place" (varE 0)))
  (seqS (dputS (cE (.bl true)) (fldE "Web" "_places" (varE 0)) (varE 1))
  (seqS (fldS "Web" "_next_place" (varE 0) (binE (varE 1) (cE (.int 1)) addD))
  (retS (varE 1))))))
noncomputable def sem_Web_place : List D → MS → Res D := shut (runF 2 B_Web_place)
theorem sem_Web_place_eq : sem_Web_place = runF 2 B_Web_place := shut_eq _
noncomputable def B_Web_ties_at : SF := (seqS (dropS (methXE "Web" "_need_place" (varE 0) (consA (varE 1) nilA) 2 sem_Web__need_place))
  (retS (compE endM (lstSrc (methE "Web" "ties" (varE 0) nilA (callP 1 sem_Web_ties))) (tupT 4 (consT (nameT 2) (consT (nameT 3) (consT (nameT 4) (consT (nameT 5) nilT))))) (valT (binE (varE 1) (appE (consA (varE 3) (consA (varE 5) nilA)) mkTup) (inD false))) (varE 2) [2, 3, 4, 5])))
noncomputable def sem_Web_ties_at : List D → MS → Res D := shut (runF 6 B_Web_ties_at)
theorem sem_Web_ties_at_eq : sem_Web_ties_at = runF 6 B_Web_ties_at := shut_eq _
noncomputable def B_Web_drop : SF := (seqS (ifS (truT (methXE "Web" "ties_at" (varE 0) (consA (varE 1) nilA) 2 sem_Web_ties_at)) (raiseS "Tied" (consA (joinsE [(cE (.str "ties are at place ")), (fmtE (varE 1))] Str.empty) nilA)) skipS)
  (ddelS (fldE "Web" "_places" (varE 0)) (varE 1)))
noncomputable def sem_Web_drop : List D → MS → Res D := shut (runF 2 B_Web_drop)
theorem sem_Web_drop_eq : sem_Web_drop = runF 2 B_Web_drop := shut_eq _
noncomputable def B__law_refusal : SF := (seqS (setS 3 (cE (.str "none")))
  (seqS (tryC L_exn [(["Full"], 4, (setS 3 (cE (.str "Full")))), (["NoPlace"], 4, (setS 3 (cE (.str "NoPlace")))), (["Tied"], 4, (setS 3 (cE (.str "Tied"))))] (ifS (valT (binE (varE 1) (cE (.str "place")) eqD)) (dropS (methXE "Web" "place" (varE 0) nilA 1 sem_Web_place)) (ifS (valT (binE (varE 1) (cE (.str "tie")) eqD)) (dropS (methXE "Web" "tie" (varE 0) (consA (varE 2) (consA (cE (.str "q")) (consA (varE 2) nilA))) 4 sem_Web_tie)) (dropS (methXE "Web" "drop" (varE 0) (consA (varE 2) nilA) 2 sem_Web_drop)))))
  (retS (varE 3))))
noncomputable def sem__law_refusal : List D → MS → Res D := shut (runF 4 B__law_refusal)
theorem sem__law_refusal_eq : sem__law_refusal = runF 4 B__law_refusal := shut_eq _
noncomputable def B__law_filled : SF := (seqS (forS (rngSrc1 (binE (cE (.int 60)) (appE (consA (varE 2) nilA) lenP) subD)) (nameT 5) (ifS (notT (truT (appE (consA (methXE "Web" "place" (varE 1) nilA 1 sem_Web_place) (consA (binE (varE 4) (varE 5) addD) nilA)) (callP 2 (sem__law_alike 5))))) (retS (cE (.bl false))) skipS))
  (seqS (setS 6 (binE (varE 2) (compE endL (rngSrc1 (binE (cE (.int 60)) (appE (consA (varE 2) nilA) lenP) subD)) (nameT 5) yesT (binE (varE 4) (varE 5) addD) [5]) addD))
  (seqS (ifS (orT (valT (binE (appE (consA (varE 1) (consA (cE (.str "place")) (consA (cE (.int 0)) nilA))) (callP 3 sem__law_refusal)) (cE (.str "Full")) neD)) (valT (binE (appE (consA (varE 1) (consA (cE (.str "drop")) (consA (binE (varE 4) (cE (.int 60)) addD) nilA))) (callP 3 sem__law_refusal)) (cE (.str "NoPlace")) neD))) (retS (cE (.bl false))) skipS)
  (seqS (forS (rngSrc1 (binE (cE (.int 200)) (appE (consA (varE 3) nilA) lenP) subD)) (nameT 5) (dropS (methXE "Web" "tie" (varE 1) (consA (binE (varE 6) (binE (varE 5) (cE (.int 60)) modD) idxD) (consA (cE (.str "q")) (consA (binE (varE 6) (appE (consA (varE 0) (consA (cE (.int 60)) nilA)) (callP 2 sem__law_draw)) idxD) nilA))) 4 sem_Web_tie)))
  (retS (andV (binE (appE (consA (varE 1) (consA (cE (.str "tie")) (consA (binE (varE 6) (cE (.int 0)) idxD) nilA))) (callP 3 sem__law_refusal)) (cE (.str "Full")) eqD) (binE (lenOE "Web" sem_Web___len__ (varE 1)) (cE (.int 200)) eqD)))))))
noncomputable def sem__law_filled : List D → MS → Res D := shut (runF 7 B__law_filled)
theorem sem__law_filled_eq : sem__law_filled = runF 7 B__law_filled := shut_eq _
noncomputable def B_web_text : SF := (seqS (setS 1 (compE endM (lstSrc (methE "Web" "places" (varE 0) nilA (callP 1 sem_Web_places))) (nameT 2) yesT (joinsE [(cE (.str "place ")), (fmtE (varE 2))] Str.empty) [2]))
  (seqS (dropS (extA (varE 1) (compE endL (lstSrc (methE "Web" "ties" (varE 0) nilA (callP 1 sem_Web_ties))) (tupT 4 (consT (nameT 3) (consT (nameT 4) (consT (nameT 5) (consT (nameT 6) nilT))))) yesT (joinsE [(cE (.str "tie ")), (fmtE (varE 3)), (cE (.str " ")), (fmtE (varE 4)), (cE (.str " ")), (fmtE (varE 5)), (cE (.str " ")), (fmtE (varE 6))] Str.empty) [3, 4, 5, 6])))
  (retS (joinE (cE (.str "\n")) (varE 1)))))
noncomputable def sem_web_text : List D → MS → Res D := shut (runT 7 B_web_text)
theorem sem_web_text_eq : sem_web_text = runT 7 B_web_text := shut_eq _
noncomputable def B__law_as_a_web : SF := (seqS (ifS (notT (truT (appE (consA (methE "Web" "mark" (varE 1) nilA (callP 1 sem_Web_mark)) (consA (cE (.int 0)) nilA)) (callP 2 (sem__law_alike 5))))) (retS (cE (.bl false))) skipS)
  (seqS (setS 4 (compE endL (lstSrc (varE 2)) (nameT 5) (valT (binE (compE endL (lstSrc (varE 3)) (nameT 7) (valT (binE (varE 5) (appE (consA (binE (varE 7) (cE (.int 1)) idxD) (consA (binE (varE 7) (cE (.int 3)) idxD) nilA)) mkLst) (inD false))) (varE 7) [7]) (appE nilA mkLst) neD)) (varE 5) [5]))
  (seqS (forS (lstSrc (sliceE mkLst (varE 2) nonO (someO (cE (.int 6))))) (nameT 5) (ifS (valT (binE (appE (consA (varE 1) (consA (cE (.str "drop")) (consA (varE 5) nilA))) (callP 3 sem__law_refusal)) (binE (appE (consA (cE (.str "none")) (consA (cE (.str "Tied")) nilA)) mkLst) (appE (consA (binE (varE 5) (varE 4) (inD false)) nilA) intTP) idxD) neD)) (retS (cE (.bl false))) skipS))
  (seqS (setS 6 (compE endL (lstSrc (varE 2)) (nameT 5) (orT (valT (binE (varE 5) (varE 4) (inD false))) (valT (binE (varE 5) (sliceE mkLst (varE 2) nonO (someO (cE (.int 6)))) (inD true)))) (varE 5) [5]))
  (seqS (ifS (orT (notT (truT (appE (consA (methE "Web" "places" (varE 1) nilA (callP 1 sem_Web_places)) (consA (varE 6) nilA)) (callP 2 (sem__law_alike 5))))) (notT (truT (appE (consA (methE "Web" "ties" (varE 1) nilA (callP 1 sem_Web_ties)) (consA (varE 3) nilA)) (callP 2 (sem__law_alike 5)))))) (retS (cE (.bl false))) skipS)
  (seqS (ifS (notT (truT (appE (consA (varE 0) (consA (varE 1) (consA (varE 6) (consA (varE 3) (consA (binE (maxdE (varE 2) (unE (cE (.int 1)) negD)) (cE (.int 1)) addD) nilA))))) (callP 5 sem__law_filled)))) (retS (cE (.bl false))) skipS)
  (seqS (ifS (valT (binE (varE 3) (appE nilA mkLst) neD)) (dropS (methXE "Web" "cut" (varE 1) (consA (binE (binE (varE 3) (appE (consA (varE 0) (consA (appE (consA (varE 3) nilA) lenP) nilA)) (callP 2 sem__law_draw)) idxD) (cE (.int 0)) idxD) nilA) 2 sem_Web_cut)) skipS)
  (seqS (dropS (methXE "Web" "undo" (varE 1) (consA (cE (.int 0)) nilA) 2 sem_Web_undo))
  (seqS (ifS (valT (binE (appE (consA (varE 1) nilA) (callP 1 sem_web_text)) (appE (consA (varE 2) (consA (varE 3) nilA)) (callP 2 sem__law_web_written)) neD)) (retS (cE (.bl false))) skipS)
  (retS (andV (appE (consA (methE "Web" "places" (varE 1) nilA (callP 1 sem_Web_places)) (consA (varE 2) nilA)) (callP 2 (sem__law_alike 5))) (appE (consA (methE "Web" "ties" (varE 1) nilA (callP 1 sem_Web_ties)) (consA (varE 3) nilA)) (callP 2 (sem__law_alike 5))))))))))))))
noncomputable def sem__law_as_a_web : List D → MS → Res D := shut (runF 8 B__law_as_a_web)
theorem sem__law_as_a_web_eq : sem__law_as_a_web = runF 8 B__law_as_a_web := shut_eq _
noncomputable def B__law_more_right : SF := (seqS (setS 4 (binE (maxdE (varE 2) (unE (cE (.int 1)) negD)) (cE (.int 1)) addD))
  (seqS (setS 5 (binE (maxdE (compE endL (lstSrc (varE 3)) (nameT 8) yesT (binE (varE 8) (cE (.int 0)) idxD) [8]) (unE (cE (.int 1)) negD)) (cE (.int 1)) addD))
  (seqS (ifS (valT (binE (appE (consA (varE 2) nilA) lenP) (cE (.int 60)) ltD)) (seqS (ifS (notT (truT (appE (consA (methXE "Web" "place" (varE 1) nilA 1 sem_Web_place) (consA (varE 4) nilA)) (callP 2 (sem__law_alike 5))))) (retS (cE (.bl false))) skipS)
  (setS 2 (binE (varE 2) (appE (consA (varE 4) nilA) mkLst) addD))) skipS)
  (seqS (ifS (andT (valT (binE (varE 2) (appE nilA mkLst) neD)) (valT (binE (appE (consA (varE 3) nilA) lenP) (cE (.int 200)) ltD))) (seqS (setS 6 (appE (consA (binE (varE 2) (appE (consA (varE 0) (consA (appE (consA (varE 2) nilA) lenP) nilA)) (callP 2 sem__law_draw)) idxD) (consA (binE (varE 2) (unE (cE (.int 1)) negD) idxD) nilA)) mkLst))
  (seqS (ifS (notT (truT (appE (consA (methXE "Web" "tie" (varE 1) (consA (binE (varE 6) (cE (.int 0)) idxD) (consA (cE (.str "q")) (consA (binE (varE 6) (cE (.int 1)) idxD) nilA))) 4 sem_Web_tie) (consA (varE 5) nilA)) (callP 2 (sem__law_alike 5))))) (retS (cE (.bl false))) skipS)
  (setS 3 (binE (varE 3) (appE (consA (appE (consA (varE 5) (consA (binE (varE 6) (cE (.int 0)) idxD) (consA (cE (.str "q")) (consA (binE (varE 6) (cE (.int 1)) idxD) nilA)))) mkTup) nilA) mkLst) addD)))) skipS)
  (seqS (ifS (valT (binE (varE 3) (appE nilA mkLst) neD)) (seqS (setS 7 (binE (varE 3) (appE (consA (varE 0) (consA (appE (consA (varE 3) nilA) lenP) nilA)) (callP 2 sem__law_draw)) idxD))
  (seqS (dropS (methXE "Web" "cut" (varE 1) (consA (binE (varE 7) (cE (.int 0)) idxD) nilA) 2 sem_Web_cut))
  (setS 3 (compE endL (lstSrc (varE 3)) (nameT 8) (valT (binE (varE 8) (varE 7) neD)) (varE 8) [8])))) skipS)
  (seqS (ifS (orT (notT (truT (appE (consA (methE "Web" "places" (varE 1) nilA (callP 1 sem_Web_places)) (consA (varE 2) nilA)) (callP 2 (sem__law_alike 5))))) (notT (truT (appE (consA (methE "Web" "ties" (varE 1) nilA (callP 1 sem_Web_ties)) (consA (varE 3) nilA)) (callP 2 (sem__law_alike 5)))))) (retS (cE (.bl false))) skipS)
  (retS (binE (appE (consA (varE 1) nilA) (callP 1 sem_web_text)) (appE (consA (varE 2) (consA (varE 3) nilA)) (callP 2 sem__law_web_written)) eqD))))))))
noncomputable def sem__law_more_right : List D → MS → Res D := shut (runF 9 B__law_more_right)
theorem sem__law_more_right_eq : sem__law_more_right = runF 9 B__law_more_right := shut_eq _
noncomputable def B__law_no_mark : SF := (seqS (setS 1 (cE (.bl false)))
  (seqS (tryS "NoMark" L_NoMark (dropS (methXE "Web" "undo" (varE 0) (consA (cE (.int 0)) nilA) 2 sem_Web_undo)) (setS 1 (cE (.bl true))))
  (retS (varE 1))))
noncomputable def sem__law_no_mark : List D → MS → Res D := shut (runF 2 B__law_no_mark)
theorem sem__law_no_mark_eq : sem__law_no_mark = runF 2 B__law_no_mark := shut_eq _
noncomputable def B_Web_ends_of : SF := (seqS (dropS (methXE "Web" "_need_tie" (varE 0) (consA (varE 1) nilA) 2 sem_Web__need_tie))
  (retS (dgetE (fldE "Web" "_ties" (varE 0)) (varE 1))))
noncomputable def sem_Web_ends_of : List D → MS → Res D := shut (runF 2 B_Web_ends_of)
theorem sem_Web_ends_of_eq : sem_Web_ends_of = runF 2 B_Web_ends_of := shut_eq _
noncomputable def B__law_ends_right : SF := (seqS (forS (lstSrc (sliceE mkLst (varE 2) nonO (someO (cE (.int 5))))) (nameT 4) (seqS (setS 5 (compE endL (lstSrc (varE 3)) (nameT 7) (valT (binE (varE 4) (appE (consA (binE (varE 7) (cE (.int 1)) idxD) (consA (binE (varE 7) (cE (.int 3)) idxD) nilA)) mkLst) (inD false))) (binE (varE 7) (cE (.int 0)) idxD) [7]))
  (ifS (notT (truT (appE (consA (methXE "Web" "ties_at" (varE 1) (consA (varE 4) nilA) 2 sem_Web_ties_at) (consA (varE 5) nilA)) (callP 2 (sem__law_alike 5))))) (retS (cE (.bl false))) skipS)))
  (seqS (forS (rngSrc1 (appE (consA (cE (.int 3)) (consA (appE (consA (varE 3) nilA) lenP) nilA)) min2P)) (nameT 6) (seqS (setS 7 (binE (varE 3) (appE (consA (varE 0) (consA (appE (consA (varE 3) nilA) lenP) nilA)) (callP 2 sem__law_draw)) idxD))
  (ifS (notT (truT (appE (consA (methXE "Web" "ends_of" (varE 1) (consA (binE (varE 7) (cE (.int 0)) idxD) nilA) 2 sem_Web_ends_of) (consA (sliceE mkLst (varE 7) (someO (cE (.int 1))) nonO) nilA)) (callP 2 (sem__law_alike 5))))) (retS (cE (.bl false))) skipS)))
  (retS (cE (.bl true)))))
noncomputable def sem__law_ends_right : List D → MS → Res D := shut (runF 8 B__law_ends_right)
theorem sem__law_ends_right_eq : sem__law_ends_right = runF 8 B__law_ends_right := shut_eq _
noncomputable def B_law : SF := (seqS (setS 1 (appE (consA (varE 0) nilA) (callP 1 sem__law_bag)))
  (seqS (setS 2 (binE (appE (consA (varE 1) (consA (cE (.int 4)) nilA)) (callP 2 sem__law_draw)) (cE (.int 3)) eqD))
  (seqS (setS 3 (appE (consA (appE (consA (varE 1) (consA (binE (appE (consA (cE (.int 9)) (consA (cE (.int 61)) nilA)) mkLst) (appE (consA (varE 2) nilA) intTP) idxD) nilA)) (callP 2 sem__law_draw)) (consA (appE (consA (varE 1) (consA (binE (appE (consA (cE (.int 11)) (consA (cE (.int 201)) nilA)) mkLst) (appE (consA (varE 2) nilA) intTP) idxD) nilA)) (callP 2 sem__law_draw)) nilA)) mkLst))
  (seqS (asgS (appE (consA (varE 1) (consA (binE (varE 3) (cE (.int 0)) idxD) (consA (binE (varE 3) (cE (.int 1)) idxD) (consA (appE (consA (varE 1) (consA (cE (.int 4)) nilA)) (callP 2 sem__law_draw)) nilA)))) (callP 4 sem__law_web)) (tupT 2 (consT (nameT 4) (consT (nameT 5) nilT))))
  (seqS (setS 6 (appE (consA (varE 4) (consA (varE 5) nilA)) (callP 2 sem__law_web_written)))
  (seqS (setS 7 (appE (consA (varE 6) nilA) (callP 1 sem_read_web)))
  (seqS (setS 8 (kwE nilA (consA (varE 6) nilA) (kwP 1 0 1 [0] sem_read_web)))
  (seqS (ifS (orT (notT (truT (appE (consA (methE "Web" "places" (varE 7) nilA (callP 1 sem_Web_places)) (consA (varE 4) nilA)) (callP 2 (sem__law_alike 5))))) (orT (notT (truT (appE (consA (methE "Web" "ties" (varE 7) nilA (callP 1 sem_Web_ties)) (consA (varE 5) nilA)) (callP 2 (sem__law_alike 5))))) (valT (binE (lenOE "Web" sem_Web___len__ (varE 7)) (appE (consA (varE 5) nilA) lenP) neD)))) (retS (cE (.bl false))) skipS)
  (seqS (ifS (orT (valT (binE (appE (consA (varE 7) nilA) (callP 1 sem_web_text)) (varE 6) neD)) (orT (notT (truT (appE (consA (varE 7) nilA) (callP 1 sem__law_no_mark)))) (notT (truT (appE (consA (varE 1) (consA (varE 7) (consA (varE 4) (consA (varE 5) nilA)))) (callP 4 sem__law_ends_right)))))) (retS (cE (.bl false))) skipS)
  (seqS (ifS (notT (truT (appE (consA (varE 1) (consA (varE 7) (consA (varE 4) (consA (varE 5) nilA)))) (callP 4 sem__law_more_right)))) (retS (cE (.bl false))) skipS)
  (seqS (ifS (orT (notT (truT (appE (consA (methE "Web" "places" (varE 8) nilA (callP 1 sem_Web_places)) (consA (varE 4) nilA)) (callP 2 (sem__law_alike 5))))) (orT (notT (truT (appE (consA (methE "Web" "ties" (varE 8) nilA (callP 1 sem_Web_ties)) (consA (varE 5) nilA)) (callP 2 (sem__law_alike 5))))) (valT (binE (kwE nilA (consA (varE 8) nilA) (kwP 1 0 1 [0] sem_web_text)) (varE 6) neD)))) (retS (cE (.bl false))) skipS)
  (retS (appE (consA (varE 1) (consA (varE 8) (consA (varE 4) (consA (varE 5) nilA)))) (callP 4 sem__law_as_a_web))))))))))))))
noncomputable def sem_law : List D → MS → Res D := shut (runF 9 B_law)
theorem sem_law_eq : sem_law = runF 9 B_law := shut_eq _
abbrev topS (i : Nat) : Stmt := PySem.Challenge.pw_wordways_k82_webs_read.main.body.getD i (.Pass ⟨9, 9, 9, 9⟩)
structure Txt (K : PySem.W.Frag) (mg : Str → Option Value) : Prop where
  q_Web : Nonempty (KC K mg "Web" ["_most_places", "_most_ties", "_places", "_ties", "_next_place", "_next_tie", "_marks"])
  x_NoMark : Nonempty (XC K mg "NoMark")
  x_NoName : Nonempty (XC K mg "NoName")
  x_NoPlace : Nonempty (XC K mg "NoPlace")
  x_NoTie : Nonempty (XC K mg "NoTie")
  x_Tied : Nonempty (XC K mg "Tied")
  vi_LookupError : PySem.W.findCls K (.type "LookupError") (.type "type") "__init__" = some (.val (.builtin "LookupError.__init__"))
  w_most : XFT K "most" ["Full"]
  v_Full : Nonempty (TVC K mg ["Full"] L_exn)
  v_NoPlace : Nonempty (TVC K mg ["NoPlace"] L_exn)
  v_Tied : Nonempty (TVC K mg ["Tied"] L_exn)
  t_NoMark : Nonempty (TC K mg "NoMark" L_NoMark)
  z_LookupError : mg "LookupError" = none
  z_abs : mg "abs" = none
  z_all : mg "all" = none
  z_bool : mg "bool" = none
  z_int : mg "int" = none
  z_isinstance : mg "isinstance" = none
  z_len : mg "len" = none
  z_list : mg "list" = none
  z_max : mg "max" = none
  z_min : mg "min" = none
  z_range : mg "range" = none
  z_set : mg "set" = none
  z_sorted : mg "sorted" = none
  z_str : mg "str" = none
  z_tuple : mg "tuple" = none
  c_FIGURES : ∀ {X : Cx} {E : EW} {pos : Pos}, (hg : Gl X "FIGURES") → (hm : X.mg = mg := by rfl) → (hk : X.K = K := by rfl) → DE X E (.Name "FIGURES" pos) (cE c_FIGURES)
  c_LONGEST_NAME : ∀ {X : Cx} {E : EW} {pos : Pos}, (hg : Gl X "LONGEST_NAME") → (hm : X.mg = mg := by rfl) → (hk : X.K = K := by rfl) → DE X E (.Name "LONGEST_NAME" pos) (cE c_LONGEST_NAME)
  c_MOST_FIGURES : ∀ {X : Cx} {E : EW} {pos : Pos}, (hg : Gl X "MOST_FIGURES") → (hm : X.mg = mg := by rfl) → (hk : X.K = K := by rfl) → DE X E (.Name "MOST_FIGURES" pos) (cE c_MOST_FIGURES)
  c_MOST_PLACES : ∀ {X : Cx} {E : EW} {pos : Pos}, (hg : Gl X "MOST_PLACES") → (hm : X.mg = mg := by rfl) → (hk : X.K = K := by rfl) → DE X E (.Name "MOST_PLACES" pos) (cE c_MOST_PLACES)
  c_MOST_TIES : ∀ {X : Cx} {E : EW} {pos : Pos}, (hg : Gl X "MOST_TIES") → (hm : X.mg = mg := by rfl) → (hk : X.K = K := by rfl) → DE X E (.Name "MOST_TIES" pos) (cE c_MOST_TIES)
  c_SMALL_LETTERS : ∀ {X : Cx} {E : EW} {pos : Pos}, (hg : Gl X "SMALL_LETTERS") → (hm : X.mg = mg := by rfl) → (hk : X.K = K := by rfl) → DE X E (.Name "SMALL_LETTERS" pos) (cE c_SMALL_LETTERS)
section
variable {P : Program} {w : World} {K : PySem.W.Frag} {mg : Str → Option Value} {base : Heap} {f : Addr} {fd : FuncData}
abbrev s__law_bag : Stmt := topS 28
abbrev N__law_bag : List Str := ["script", "stir", "cell"]
theorem sc__law_bag : FnScope N__law_bag ["script"] (defScope s__law_bag) := ⟨rfl, rfl, rfl, by decide +kernel, rfl, by decide +kernel, by decide +kernel⟩
theorem ok__law_bag (F : Fun K "_law_bag" "_law_bag" s__law_bag f fd) (T : Txt K mg)   : FnOk P w K mg base CX0 1 f fd ["script"] (dSp K 1 sem__law_bag) :=
  sem__law_bag_eq ▸ fn_run F sc__law_bag fun cdv A outer s H EX hr =>
    (s_cons (s_set (i := 1) sc__law_bag.nd rfl (by first | exact Or.inl rfl | exact Or.inr rfl) d_int)
    (s_cons (s_for PassesOwn.never rfl (i_lst (d_slice (d_var (pv 0)) o_none (o_some d_int))) (g_name (i := 2) sc__law_bag.nd rfl (by first | exact Or.inl rfl | exact Or.inr rfl)) (s_one (s_set (i := 1) sc__law_bag.nd rfl (by first | exact Or.inl rfl | exact Or.inr rfl) (d_mod (d_add (d_add (d_mul (d_var (pv 1)) d_int) (d_mod (d_var (pv 2)) d_int)) d_int) d_int))))
    (s_one (s_ret (d_mut (a_cons (d_comp (own := [("cell", 2)]) (T := (nameT 2)) endL_ok rfl sc__law_bag.nd (i_lst (d_slice (d_var (pv 0)) o_none (o_some d_int))) (blkOk_by (own := [("cell", 2)]) (N := N__law_bag) (sc := defScope s__law_bag) (by decide +kernel)) (fun _ _ _ _ _ => (pg_name (i := 2) sc__law_bag.nd rfl (by first | exact Or.inl rfl | exact Or.inr rfl))) (k_name (by decide)) (fun _ _ _ _ _ => ts_nil) (fun _ _ _ _ _ => (d_mod (d_blt call_abs p_abs (by rfl) T.z_abs (by decide +kernel) (a_cons (d_var (pv 2)) a_nil)) (d_pow (d_pow d_int d_int) d_int)))) (a_cons d_int (a_cons d_int (a_cons (d_var (pv 1)) (a_cons d_int a_nil))))))))))
abbrev s__law_stirred : Stmt := topS 29
abbrev N__law_stirred : List Str := ["bag", "many", "found", "k"]
theorem sc__law_stirred : FnScope N__law_stirred ["bag", "many"] (defScope s__law_stirred) := ⟨rfl, rfl, rfl, by decide +kernel, rfl, by decide +kernel, by decide +kernel⟩
theorem ok__law_stirred (F : Fun K "_law_stirred" "_law_stirred" s__law_stirred f fd) (T : Txt K mg)   : FnOk P w K mg base CX0 1 f fd ["bag", "many"] (dSp K 2 sem__law_stirred) :=
  sem__law_stirred_eq ▸ fn_run F sc__law_stirred fun cdv A outer s H EX hr =>
    (s_cons (s_set (i := 2) sc__law_stirred.nd rfl (by first | exact Or.inl rfl | exact Or.inr rfl) d_int)
    (s_cons (s_for PassesOwn.never rfl (i_rng1 (by rfl) T.z_range (d_add d_int (d_div (d_bits (d_var (pv 1))) d_int))) (g_name (i := 3) sc__law_stirred.nd rfl (by first | exact Or.inl rfl | exact Or.inr rfl)) (s_cons (s_asg (d_add (d_idx (d_var (pv 0)) d_int) d_int) (g_sub (d_var (pv 0)) d_int))
    (s_cons (s_asg (d_mod (d_add (d_add (d_add (d_pow (d_idx (d_var (pv 0)) d_int) d_int) (d_mul d_int (d_idx (d_var (pv 0)) d_int))) (d_mul d_int (d_idx (d_var (pv 0)) d_int))) d_int) d_int) (g_sub (d_var (pv 0)) d_int))
    (s_one (s_set (i := 2) sc__law_stirred.nd rfl (by first | exact Or.inl rfl | exact Or.inr rfl) (d_add (d_mul (d_var (pv 2)) d_int) (d_div (d_idx (d_var (pv 0)) d_int) d_int)))))))
    (s_one (s_ret (d_mod (d_var (pv 2)) (d_var (pv 1)))))))
abbrev s__law_draw : Stmt := topS 30
abbrev N__law_draw : List Str := ["bag", "many", "found"]
theorem sc__law_draw : FnScope N__law_draw ["bag", "many"] (defScope s__law_draw) := ⟨rfl, rfl, rfl, by decide +kernel, rfl, by decide +kernel, by decide +kernel⟩
theorem ok__law_draw (F : Fun K "_law_draw" "_law_draw" s__law_draw f fd) (T : Txt K mg) (C__law_stirred : Cal P w K mg base 1 "_law_stirred" ["bag", "many"] sem__law_stirred)  : FnOk P w K mg base CX0 2 f fd ["bag", "many"] (dSp K 2 sem__law_draw) :=
  sem__law_draw_eq ▸ fn_run F sc__law_draw fun cdv A outer s H EX hr =>
    (s_cons (s_if (t_w (w_and (t_cmp (op_eqA hr.units) q_eq (d_idx (d_var (pv 0)) d_int) d_int (nomark _)) (w_and1 (t_cmp op_lt q_lt (d_idx (d_var (pv 0)) d_int) (d_blt (call_len_seq.or call_len_str) p_len (by rfl) T.z_len (by decide +kernel) (a_cons (d_idx (d_var (pv 0)) d_int) a_nil)) (nomark _))))) (s_cons (s_asg (d_idx (d_idx (d_var (pv 0)) d_int) (d_idx (d_var (pv 0)) d_int)) (g_sub (d_var (pv 0)) d_int))
    (s_one (s_asg (d_add (d_idx (d_var (pv 0)) d_int) d_int) (g_sub (d_var (pv 0)) d_int)))) (s_one (s_if (t_cmp (op_eqA hr.units) q_eq (d_idx (d_var (pv 0)) d_int) d_int (nomark _)) (s_one (s_ret (c_call C__law_stirred (hr.mono (by omega)) (a_cons (d_var (pv 0)) (a_cons (d_var (pv 1)) a_nil))))) s_nil)))
    (s_cons (s_set (i := 2) sc__law_draw.nd rfl (by first | exact Or.inl rfl | exact Or.inr rfl) (d_mod (d_idx (d_var (pv 0)) d_int) (d_var (pv 1))))
    (s_cons (s_asg (d_div (d_idx (d_var (pv 0)) d_int) (d_var (pv 1))) (g_sub (d_var (pv 0)) d_int))
    (s_one (s_ret (d_var (pv 2)))))))
abbrev s__law_name : Stmt := topS 32
abbrev N__law_name : List Str := ["bag", "way", "k"]
theorem sc__law_name : FnScope N__law_name ["bag"] (defScope s__law_name) := ⟨rfl, rfl, rfl, by decide +kernel, rfl, by decide +kernel, by decide +kernel⟩
theorem ok__law_name (F : Fun K "_law_name" "_law_name" s__law_name f fd) (T : Txt K mg) (C__law_draw : Cal P w K mg base 2 "_law_draw" ["bag", "many"] sem__law_draw)  : FnOk P w K mg base CX0 3 f fd ["bag"] (dSp K 1 sem__law_name) :=
  sem__law_name_eq ▸ fn_run F sc__law_name fun cdv A outer s H EX hr =>
    (s_cons (s_set (i := 1) sc__law_name.nd rfl (by first | exact Or.inl rfl | exact Or.inr rfl) (c_call C__law_draw (hr.mono (by omega)) (a_cons (d_var (pv 0)) (a_cons d_int a_nil))))
    (s_cons (s_if (t_cmp (op_eqA hr.units) q_eq (d_var (pv 1)) d_int (nomark _)) (s_one (s_ret (d_idx d_str (c_call C__law_draw (hr.mono (by omega)) (a_cons (d_var (pv 0)) (a_cons d_int a_nil)))))) s_nil)
    (s_cons (s_if (t_cmp (op_eqA hr.units) q_eq (d_var (pv 1)) d_int (nomark _)) (s_one (s_ret (d_idx (d_lst (a_cons d_str (a_cons d_str (a_cons d_str (a_cons d_str (a_cons d_str (a_cons d_str (a_cons d_str (a_cons d_str (a_cons d_str a_nil)))))))))) (c_call C__law_draw (hr.mono (by omega)) (a_cons (d_var (pv 0)) (a_cons d_int a_nil)))))) s_nil)
    (s_cons (s_if (t_cmp (op_eqA hr.units) q_eq (d_var (pv 1)) d_int (nomark _)) (s_one (s_ret (d_slice d_str (o_some (c_call C__law_draw (hr.mono (by omega)) (a_cons (d_var (pv 0)) (a_cons d_int a_nil)))) o_none))) s_nil)
    (s_one (s_ret (d_join d_str (d_comp (own := [("k", 2)]) (T := (nameT 2)) endL_ok rfl sc__law_name.nd (i_rng1 (by rfl) T.z_range (d_add d_int (c_call C__law_draw (hr.mono (by omega)) (a_cons (d_var (pv 0)) (a_cons d_int a_nil))))) (blkOk_by (own := [("k", 2)]) (N := N__law_name) (sc := defScope s__law_name) (by decide +kernel)) (fun _ _ _ _ _ => (pg_name (i := 2) sc__law_name.nd rfl (by first | exact Or.inl rfl | exact Or.inr rfl))) (k_name (by decide)) (fun _ _ _ _ _ => ts_nil) (fun _ _ _ _ _ => (d_idx d_str (c_call C__law_draw (hr.mono (by omega)) (a_cons (d_var (pv 0)) (a_cons d_int a_nil)))))))))))))
abbrev s__law_web : Stmt := topS 34
abbrev N__law_web : List Str := ["bag", "places", "ties", "far", "some", "at", "k", "names", "rows", "ends"]
theorem sc__law_web : FnScope N__law_web ["bag", "places", "ties", "far"] (defScope s__law_web) := ⟨rfl, rfl, rfl, by decide +kernel, rfl, by decide +kernel, by decide +kernel⟩
theorem ok__law_web (F : Fun K "_law_web" "_law_web" s__law_web f fd) (T : Txt K mg) (C__law_draw : Cal P w K mg base 2 "_law_draw" ["bag", "many"] sem__law_draw) (C__law_name : Cal P w K mg base 3 "_law_name" ["bag"] sem__law_name)  : FnOk P w K mg base CX0 4 f fd ["bag", "places", "ties", "far"] (dSp K 4 sem__law_web) :=
  sem__law_web_eq ▸ fn_run F sc__law_web fun cdv A outer s H EX hr =>
    (s_cons (s_set (i := 4) sc__law_web.nd rfl (by first | exact Or.inl rfl | exact Or.inr rfl) (d_mut a_nil))
    (s_cons (s_set (i := 5) sc__law_web.nd rfl (by first | exact Or.inl rfl | exact Or.inr rfl) d_int)
    (s_cons (s_for PassesOwn.never rfl (i_rng1 (by rfl) T.z_range (d_var (pv 1))) (g_name (i := 6) sc__law_web.nd rfl (by first | exact Or.inl rfl | exact Or.inr rfl)) (s_cons (s_set (i := 5) sc__law_web.nd rfl (by first | exact Or.inl rfl | exact Or.inr rfl) (d_add (d_var (pv 5)) (c_call C__law_draw (hr.mono (by omega)) (a_cons (d_var (pv 0)) (a_cons (d_idx (d_lst (a_cons d_int (a_cons d_int (a_cons d_int (a_cons (d_pow d_int d_int) a_nil))))) (d_var (pv 3))) a_nil)))))
    (s_cons (s_drop (d_append (d_var (pv 4)) (d_var (pv 5))))
    (s_one (s_set (i := 5) sc__law_web.nd rfl (by first | exact Or.inl rfl | exact Or.inr rfl) (d_add (d_var (pv 5)) d_int))))))
    (s_cons (s_setComp (i := 7) (own := [("k", 6)]) (T := (nameT 6)) endL_ok rfl sc__law_web.nd rfl rfl (sw_true rfl rfl rfl (by decide +kernel)) (i_rng1 (by rfl) T.z_range (d_add d_int (c_call C__law_draw (hr.mono (by omega)) (a_cons (d_var (pv 0)) (a_cons d_int a_nil))))) (blkOk_by (own := [("k", 6)]) (N := N__law_web) (sc := defScope s__law_web) (by decide +kernel)) (fun _ _ _ _ _ => (pg_name (i := 6) sc__law_web.nd rfl (by first | exact Or.inl rfl | exact Or.inr rfl))) (k_name (by decide)) (fun _ _ _ _ _ => ts_nil) (fun _ _ _ _ _ => (c_call C__law_name (hr.mono (by omega)) (a_cons (d_var (pv 0)) a_nil))))
    (s_cons (s_set (i := 8) sc__law_web.nd rfl (by first | exact Or.inl rfl | exact Or.inr rfl) (d_mut a_nil))
    (s_cons (s_set (i := 5) sc__law_web.nd rfl (by first | exact Or.inl rfl | exact Or.inr rfl) d_int)
    (s_cons (s_for PassesOwn.never rfl (i_rng1 (by rfl) T.z_range (d_mul (d_var (pv 2)) (d_bty (call_int1.or call_int_str) p_toIntT (by rfl) T.z_int (by decide +kernel) (a_cons (d_cmp op_gt q_gt (d_var (pv 1)) d_int (nomark _)) a_nil)))) (g_name (i := 6) sc__law_web.nd rfl (by first | exact Or.inl rfl | exact Or.inr rfl)) (s_cons (s_set (i := 5) sc__law_web.nd rfl (by first | exact Or.inl rfl | exact Or.inr rfl) (d_add (d_var (pv 5)) (c_call C__law_draw (hr.mono (by omega)) (a_cons (d_var (pv 0)) (a_cons (d_idx (d_lst (a_cons d_int (a_cons d_int (a_cons d_int (a_cons (d_pow d_int d_int) a_nil))))) (d_var (pv 3))) a_nil)))))
    (s_cons (s_set (i := 9) sc__law_web.nd rfl (by first | exact Or.inl rfl | exact Or.inr rfl) (d_lst (a_cons (d_idx (d_var (pv 4)) (c_call C__law_draw (hr.mono (by omega)) (a_cons (d_var (pv 0)) (a_cons (d_var (pv 1)) a_nil)))) (a_cons (d_idx (d_var (pv 4)) (c_call C__law_draw (hr.mono (by omega)) (a_cons (d_var (pv 0)) (a_cons (d_var (pv 1)) a_nil)))) a_nil))))
    (s_cons (s_drop (d_append (d_var (pv 8)) (d_tup (a_cons (d_var (pv 5)) (a_cons (d_idx (d_var (pv 9)) d_int) (a_cons (d_idx (d_var (pv 7)) (c_call C__law_draw (hr.mono (by omega)) (a_cons (d_var (pv 0)) (a_cons (d_blt (call_len_seq.or call_len_str) p_len (by rfl) T.z_len (by decide +kernel) (a_cons (d_var (pv 7)) a_nil)) a_nil)))) (a_cons (d_idx (d_var (pv 9)) d_int) a_nil)))))))
    (s_one (s_set (i := 5) sc__law_web.nd rfl (by first | exact Or.inl rfl | exact Or.inr rfl) (d_add (d_var (pv 5)) d_int)))))))
    (s_one (s_ret (d_tup (a_cons (d_var (pv 4)) (a_cons (d_var (pv 8)) a_nil))))))))))))
abbrev s__law_web_written : Stmt := topS 35
abbrev N__law_web_written : List Str := ["places", "ties", "lines", "tie", "place", "part"]
theorem sc__law_web_written : FnScope N__law_web_written ["places", "ties"] (defScope s__law_web_written) := ⟨rfl, rfl, rfl, by decide +kernel, rfl, by decide +kernel, by decide +kernel⟩
theorem ok__law_web_written (F : Fun K "_law_web_written" "_law_web_written" s__law_web_written f fd) (T : Txt K mg)   : FnOk P w K mg base CX0 1 f fd ["places", "ties"] (dSp K 2 sem__law_web_written) :=
  sem__law_web_written_eq ▸ fn_runT F sc__law_web_written fun cdv A outer s H EX hr =>
    (s_cons (s_setComp (i := 2) (own := [("place", 4)]) (T := (nameT 4)) endM_ok rfl sc__law_web_written.nd rfl rfl (sw_true rfl rfl rfl (by decide +kernel)) (i_lst (d_var (pv 0))) (blkOk_by (own := [("place", 4)]) (N := N__law_web_written) (sc := defScope s__law_web_written) (by decide +kernel)) (fun _ _ _ _ _ => (pg_name (i := 4) sc__law_web_written.nd rfl (by first | exact Or.inl rfl | exact Or.inr rfl))) (k_name (by decide)) (fun _ _ _ _ _ => ts_nil) (fun _ _ _ _ _ => (d_add d_str (d_bty (call_str_int.or SkE.call_str_str) p_toStr (by rfl) T.z_str (by decide +kernel) (a_cons (d_var (pv 4)) a_nil)))))
    (s_cons (s_for PassesOwn.never rfl (i_lst (d_var (pv 1))) (g_name (i := 3) sc__law_web_written.nd rfl (by first | exact Or.inl rfl | exact Or.inr rfl)) (s_one (s_drop (d_append (d_var (pv 2)) (d_add d_str (d_join d_str (d_comp (own := [("part", 5)]) (T := (nameT 5)) endL_ok rfl sc__law_web_written.nd (i_tup (d_var (pv 3))) (blkOk_by (own := [("part", 5)]) (N := N__law_web_written) (sc := defScope s__law_web_written) (by decide +kernel)) (fun _ _ _ _ _ => (pg_name (i := 5) sc__law_web_written.nd rfl (by first | exact Or.inl rfl | exact Or.inr rfl))) (k_name (by decide)) (fun _ _ _ _ _ => ts_nil) (fun _ _ _ _ _ => (d_bty (call_str_int.or SkE.call_str_str) p_toStr (by rfl) T.z_str (by decide +kernel) (a_cons (d_var (pv 5)) a_nil))))))))))
    (s_one (s_ret (d_join d_str (d_var (pv 2)))))))
abbrev s_Web___init__ : Stmt := inClass (topS 16) 0
abbrev N_Web___init__ : List Str := ["self", "most_places", "most_ties"]
theorem sc_Web___init__ : FnScope N_Web___init__ ["self", "most_places", "most_ties"] (defScope s_Web___init__) := ⟨rfl, rfl, rfl, by decide +kernel, rfl, by decide +kernel, by decide +kernel⟩
theorem ok_Web___init__ (F : Fun K "__init__" "Web.__init__" s_Web___init__ f fd) (T : Txt K mg)   : FnOk P w K mg base CX0 1 f fd ["self", "most_places", "most_ties"] (dSp K 3 sem_Web___init__) :=
  sem_Web___init___eq ▸ fn_run F sc_Web___init__ fun cdv A outer s H EX hr =>
    (s_cons (s_fld (Classical.choice T.q_Web) (by simp) (d_var (pv 0)) (d_var (pv 1)))
    (s_cons (s_fld (Classical.choice T.q_Web) (by simp) (d_var (pv 0)) (d_var (pv 2)))
    (s_cons (s_fld (Classical.choice T.q_Web) (by simp) (d_var (pv 0)) d_dnew)
    (s_cons (s_fld (Classical.choice T.q_Web) (by simp) (d_var (pv 0)) d_dnew)
    (s_cons (s_fld (Classical.choice T.q_Web) (by simp) (d_var (pv 0)) d_int)
    (s_cons (s_fld (Classical.choice T.q_Web) (by simp) (d_var (pv 0)) d_int)
    (s_one (s_fld (Classical.choice T.q_Web) (by simp) (d_var (pv 0)) (d_mut a_nil)))))))))
abbrev s_Web_put_back : Stmt := inClass (topS 16) 13
abbrev N_Web_put_back : List Str := ["self", "stand", "places", "ties", "place", "tie", "start", "name", "goal"]
theorem sc_Web_put_back : FnScope N_Web_put_back ["self", "stand"] (defScope s_Web_put_back) := ⟨rfl, rfl, rfl, by decide +kernel, rfl, by decide +kernel, by decide +kernel⟩
theorem ok_Web_put_back (F : Fun K "put_back" "Web.put_back" s_Web_put_back f fd) (T : Txt K mg)   : FnOk P w K mg base CX0 1 f fd ["self", "stand"] (dSp K 2 sem_Web_put_back) :=
  sem_Web_put_back_eq ▸ fn_run F sc_Web_put_back fun cdv A outer s H EX hr =>
    (s_cons (s_asg (d_var (pv 1)) (g_tup rfl (g_cons (g_name (i := 2) sc_Web_put_back.nd rfl (by first | exact Or.inl rfl | exact Or.inr rfl)) (g_cons (g_name (i := 3) sc_Web_put_back.nd rfl (by first | exact Or.inl rfl | exact Or.inr rfl)) (g_cons (g_fld (Classical.choice T.q_Web) (by simp) (d_var (pv 0))) (g_cons (g_fld (Classical.choice T.q_Web) (by simp) (d_var (pv 0))) g_nil))))))
    (s_cons (s_fld (Classical.choice T.q_Web) (by simp) (d_var (pv 0)) (d_dcomp (own := [("place", 4)]) (T := (nameT 4)) rfl sc_Web_put_back.nd (i_lst (d_var (pv 2))) (blkOk_by (own := [("place", 4)]) (N := N_Web_put_back) (sc := defScope s_Web_put_back) (by decide +kernel)) (fun _ _ _ _ _ => (pg_name (i := 4) sc_Web_put_back.nd rfl (by first | exact Or.inl rfl | exact Or.inr rfl))) (k_name (by decide)) (fun _ _ _ _ _ => ts_nil) (fun _ _ _ _ _ => (d_var (pv 4))) (fun _ _ _ _ _ => d_bl)))
    (s_one (s_fld (Classical.choice T.q_Web) (by simp) (d_var (pv 0)) (d_dcomp (own := [("tie", 5), ("start", 6), ("name", 7), ("goal", 8)]) (T := (tupT 4 (consT (nameT 5) (consT (nameT 6) (consT (nameT 7) (consT (nameT 8) nilT)))))) rfl sc_Web_put_back.nd (i_lst (d_var (pv 3))) (blkOk_by (own := [("tie", 5), ("start", 6), ("name", 7), ("goal", 8)]) (N := N_Web_put_back) (sc := defScope s_Web_put_back) (by decide +kernel)) (fun _ _ _ _ _ => (pg_tup rfl (pgs_cons (pg_name (i := 5) sc_Web_put_back.nd rfl (by first | exact Or.inl rfl | exact Or.inr rfl)) (pgs_cons (pg_name (i := 6) sc_Web_put_back.nd rfl (by first | exact Or.inl rfl | exact Or.inr rfl)) (pgs_cons (pg_name (i := 7) sc_Web_put_back.nd rfl (by first | exact Or.inl rfl | exact Or.inr rfl)) (pgs_cons (pg_name (i := 8) sc_Web_put_back.nd rfl (by first | exact Or.inl rfl | exact Or.inr rfl)) pgs_nil)))))) (k_tup (k_cons (by decide) (k_cons (by decide) (k_cons (by decide) (k_cons (by decide) k_nil))))) (fun _ _ _ _ _ => ts_nil) (fun _ _ _ _ _ => (d_var (pv 5))) (fun _ _ _ _ _ => (d_tup (a_cons (d_var (pv 6)) (a_cons (d_var (pv 7)) (a_cons (d_var (pv 8)) a_nil))))))))))
abbrev s_read_whole : Stmt := topS 24
abbrev N_read_whole : List Str := ["text", "sign"]
theorem sc_read_whole : FnScope N_read_whole ["text"] (defScope s_read_whole) := ⟨rfl, rfl, rfl, by decide +kernel, rfl, by decide +kernel, by decide +kernel⟩
theorem ok_read_whole (F : Fun K "read_whole" "read_whole" s_read_whole f fd) (T : Txt K mg)   : FnOk P w K mg base CX0 1 f fd ["text"] (dSp K 1 sem_read_whole) :=
  sem_read_whole_eq ▸ fn_run F sc_read_whole fun cdv A outer s H EX hr =>
    (s_cons (s_if (t_w (w_or (t_not (t_chain op_le op_le (fun _ => q_le) q_le d_int (d_blt (call_len_seq.or call_len_str) p_len (by rfl) T.z_len (by decide +kernel) (a_cons (d_var (pv 0)) a_nil)) (T.c_MOST_FIGURES (by rfl)))) (w_or1 (t_not (t_tru (d_blt (cr_all rfl) p_all (by rfl) T.z_all (by decide +kernel) (a_cons (d_comp (own := [("sign", 1)]) (T := (nameT 1)) endL_ok rfl sc_read_whole.nd (i_str (d_var (pv 0))) (blkOk_by (own := [("sign", 1)]) (N := N_read_whole) (sc := defScope s_read_whole) (by decide +kernel)) (fun _ _ _ _ _ => (pg_name (i := 1) sc_read_whole.nd rfl (by first | exact Or.inl rfl | exact Or.inr rfl))) (k_name (by decide)) (fun _ _ _ _ _ => ts_nil) (fun _ _ _ _ _ => (d_cmp op_inD (q_in false) (d_var (pv 1)) (T.c_FIGURES (by rfl)) (by rfl)))) a_nil))))))) (s_one s_bad) s_nil)
    (s_cons (s_if (t_w (w_and (t_cmp (op_eqA hr.units) q_eq (d_idx (d_var (pv 0)) d_int) d_str (nomark _)) (w_and1 (t_cmp (op_neA hr.units) q_ne (d_var (pv 0)) d_str (nomark _))))) (s_one s_bad) s_nil)
    (s_one (s_ret (d_bty (call_int1.or call_int_str) p_toIntT (by rfl) T.z_int (by decide +kernel) (a_cons (d_var (pv 0)) a_nil))))))
abbrev s_is_name : Stmt := topS 12
abbrev N_is_name : List Str := ["text", "sign"]
theorem sc_is_name : FnScope N_is_name ["text"] (defScope s_is_name) := ⟨rfl, rfl, rfl, by decide +kernel, rfl, by decide +kernel, by decide +kernel⟩
theorem ok_is_name (F : Fun K "is_name" "is_name" s_is_name f fd) (T : Txt K mg)   : FnOk P w K mg base CX0 1 f fd ["text"] (dSp K 1 sem_is_name) :=
  sem_is_name_eq ▸ fn_run F sc_is_name fun cdv A outer s H EX hr =>
    (s_cons (s_if (t_not (t_chain op_le op_le (fun _ => q_le) q_le d_int (d_blt (call_len_seq.or call_len_str) p_len (by rfl) T.z_len (by decide +kernel) (a_cons (d_var (pv 0)) a_nil)) (T.c_LONGEST_NAME (by rfl)))) (s_one (s_ret d_bl)) s_nil)
    (s_one (s_ret (d_blt (cr_all rfl) p_all (by rfl) T.z_all (by decide +kernel) (a_cons (d_comp (own := [("sign", 1)]) (T := (nameT 1)) endL_ok rfl sc_is_name.nd (i_str (d_var (pv 0))) (blkOk_by (own := [("sign", 1)]) (N := N_is_name) (sc := defScope s_is_name) (by decide +kernel)) (fun _ _ _ _ _ => (pg_name (i := 1) sc_is_name.nd rfl (by first | exact Or.inl rfl | exact Or.inr rfl))) (k_name (by decide)) (fun _ _ _ _ _ => ts_nil) (fun _ _ _ _ _ => (d_cmp op_inD (q_in false) (d_var (pv 1)) (T.c_SMALL_LETTERS (by rfl)) (by rfl)))) a_nil)))))
abbrev s_read_tie : Stmt := topS 23
abbrev N_read_tie : List Str := ["words", "_", "tie", "start", "name", "goal"]
theorem sc_read_tie : FnScope N_read_tie ["words"] (defScope s_read_tie) := ⟨rfl, rfl, rfl, by decide +kernel, rfl, by decide +kernel, by decide +kernel⟩
theorem ok_read_tie (F : Fun K "read_tie" "read_tie" s_read_tie f fd) (T : Txt K mg) (C_read_whole : Cal P w K mg base 1 "read_whole" ["text"] sem_read_whole) (C_is_name : Cal P w K mg base 1 "is_name" ["text"] sem_is_name)  : FnOk P w K mg base CX0 2 f fd ["words"] (dSp K 1 sem_read_tie) :=
  sem_read_tie_eq ▸ fn_run F sc_read_tie fun cdv A outer s H EX hr =>
    (s_cons (s_asg (d_var (pv 0)) (g_lst rfl (g_cons (g_name (i := 1) sc_read_tie.nd rfl (by first | exact Or.inl rfl | exact Or.inr rfl)) (g_cons (g_name (i := 2) sc_read_tie.nd rfl (by first | exact Or.inl rfl | exact Or.inr rfl)) (g_cons (g_name (i := 3) sc_read_tie.nd rfl (by first | exact Or.inl rfl | exact Or.inr rfl)) (g_cons (g_name (i := 4) sc_read_tie.nd rfl (by first | exact Or.inl rfl | exact Or.inr rfl)) (g_cons (g_name (i := 5) sc_read_tie.nd rfl (by first | exact Or.inl rfl | exact Or.inr rfl)) g_nil)))))))
    (s_cons (s_if (t_not (t_tru (c_call C_is_name (hr.mono (by omega)) (a_cons (d_var (pv 4)) a_nil)))) (s_one s_bad) s_nil)
    (s_one (s_ret (d_tup (a_cons (c_call C_read_whole (hr.mono (by omega)) (a_cons (d_var (pv 2)) a_nil)) (a_cons (c_call C_read_whole (hr.mono (by omega)) (a_cons (d_var (pv 3)) a_nil)) (a_cons (d_var (pv 4)) (a_cons (c_call C_read_whole (hr.mono (by omega)) (a_cons (d_var (pv 5)) a_nil)) a_nil)))))))))
abbrev s_read_rows : Stmt := topS 22
abbrev N_read_rows : List Str := ["text", "places", "ties", "row", "words"]
theorem sc_read_rows : FnScope N_read_rows ["text"] (defScope s_read_rows) := ⟨rfl, rfl, rfl, by decide +kernel, rfl, by decide +kernel, by decide +kernel⟩
theorem ok_read_rows (F : Fun K "read_rows" "read_rows" s_read_rows f fd) (T : Txt K mg) (C_read_whole : Cal P w K mg base 1 "read_whole" ["text"] sem_read_whole) (C_read_tie : Cal P w K mg base 2 "read_tie" ["words"] sem_read_tie)  : FnOk P w K mg base CX0 3 f fd ["text"] (dSp K 1 sem_read_rows) :=
  sem_read_rows_eq ▸ fn_run F sc_read_rows fun cdv A outer s H EX hr =>
    (s_cons (s_set (i := 1) sc_read_rows.nd rfl (by first | exact Or.inl rfl | exact Or.inr rfl) (d_mut a_nil))
    (s_cons (s_set (i := 2) sc_read_rows.nd rfl (by first | exact Or.inl rfl | exact Or.inr rfl) (d_mut a_nil))
    (s_cons (s_for PassesOwn.never rfl (i_lst (d_ite (t_tru (d_var (pv 0))) (d_split (d_var (pv 0)) d_str) (d_lst a_nil))) (g_name (i := 3) sc_read_rows.nd rfl (by first | exact Or.inl rfl | exact Or.inr rfl)) (s_cons (s_set (i := 4) sc_read_rows.nd rfl (by first | exact Or.inl rfl | exact Or.inr rfl) (d_split (d_var (pv 3)) d_str))
    (s_one (s_if (t_w (w_and (t_cmp (op_eqA hr.units) q_eq (d_idx (d_var (pv 4)) d_int) d_str (nomark _)) (w_and (t_cmp (op_eqA hr.units) q_eq (d_blt (call_len_seq.or call_len_str) p_len (by rfl) T.z_len (by decide +kernel) (a_cons (d_var (pv 4)) a_nil)) d_int (nomark _)) (w_and1 (t_not (t_tru (d_var (pv 2)))))))) (s_one (s_drop (d_append (d_var (pv 1)) (c_call C_read_whole (hr.mono (by omega)) (a_cons (d_idx (d_var (pv 4)) d_int) a_nil))))) (s_one (s_if (t_w (w_and (t_cmp (op_eqA hr.units) q_eq (d_idx (d_var (pv 4)) d_int) d_str (nomark _)) (w_and1 (t_cmp (op_eqA hr.units) q_eq (d_blt (call_len_seq.or call_len_str) p_len (by rfl) T.z_len (by decide +kernel) (a_cons (d_var (pv 4)) a_nil)) d_int (nomark _))))) (s_one (s_drop (d_append (d_var (pv 2)) (c_call C_read_tie (hr.mono (by omega)) (a_cons (d_var (pv 4)) a_nil))))) (s_one s_bad)))))))
    (s_one (s_ret (d_tup (a_cons (d_var (pv 1)) (a_cons (d_var (pv 2)) a_nil))))))))
abbrev s_rises : Stmt := topS 25
abbrev N_rises : List Str := ["numbers"]
theorem sc_rises : FnScope N_rises ["numbers"] (defScope s_rises) := ⟨rfl, rfl, rfl, by decide +kernel, rfl, by decide +kernel, by decide +kernel⟩
theorem ok_rises (F : Fun K "rises" "rises" s_rises f fd) (T : Txt K mg)   : FnOk P w K mg base CX0 1 f fd ["numbers"] (dSp K 1 sem_rises) :=
  sem_rises_eq ▸ fn_run F sc_rises fun cdv A outer s H EX hr =>
    (s_one (s_ret (d_cmp (op_eqA hr.units) q_eq (d_var (pv 0)) (d_ssetQ rfl (by rfl) T.z_sorted (by rfl) T.z_set (a_cons (d_var (pv 0)) a_nil)) (nomark _))))
abbrev s_next_number : Stmt := topS 26
abbrev N_next_number : List Str := ["numbers"]
theorem sc_next_number : FnScope N_next_number ["numbers"] (defScope s_next_number) := ⟨rfl, rfl, rfl, by decide +kernel, rfl, by decide +kernel, by decide +kernel⟩
theorem ok_next_number (F : Fun K "next_number" "next_number" s_next_number f fd) (T : Txt K mg)   : FnOk P w K mg base CX0 1 f fd ["numbers"] (dSp K 1 sem_next_number) :=
  sem_next_number_eq ▸ fn_run F sc_next_number fun cdv A outer s H EX hr =>
    (s_one (s_ret (d_add (d_maxd rfl hr.units (by rfl) T.z_max (d_var (pv 0)) (d_neg d_int)) d_int)))
abbrev s_read_web : Stmt := topS 21
abbrev N_read_web : List Str := ["text", "places", "ties", "numbers", "_", "start", "goal", "web", "row"]
theorem sc_read_web : FnScope N_read_web ["text"] (defScope s_read_web) := ⟨rfl, rfl, rfl, by decide +kernel, rfl, by decide +kernel, by decide +kernel⟩
theorem ok_read_web (F : Fun K "read_web" "read_web" s_read_web f fd) (T : Txt K mg) (C_Web___init__ : CalD P w K mg base 1 "Web" ["self", "most_places", "most_ties"] sem_Web___init__ dv_Web___init__) (C_Web_put_back : CalM P w K mg base 1 "Web" "put_back" ["self", "stand"] sem_Web_put_back) (C_read_rows : Cal P w K mg base 3 "read_rows" ["text"] sem_read_rows) (C_rises : Cal P w K mg base 1 "rises" ["numbers"] sem_rises) (C_next_number : Cal P w K mg base 1 "next_number" ["numbers"] sem_next_number)  : FnOk P w K mg base CX0 4 f fd ["text"] (dSp K 1 sem_read_web) :=
  sem_read_web_eq ▸ fn_run F sc_read_web fun cdv A outer s H EX hr =>
    (s_cons (s_asg (c_call C_read_rows (hr.mono (by omega)) (a_cons (d_var (pv 0)) a_nil)) (g_tup rfl (g_cons (g_name (i := 1) sc_read_web.nd rfl (by first | exact Or.inl rfl | exact Or.inr rfl)) (g_cons (g_name (i := 2) sc_read_web.nd rfl (by first | exact Or.inl rfl | exact Or.inr rfl)) g_nil))))
    (s_cons (s_setComp (i := 3) (own := [("row", 8)]) (T := (nameT 8)) endL_ok rfl sc_read_web.nd rfl rfl (sw_true rfl rfl rfl (by decide +kernel)) (i_lst (d_var (pv 2))) (blkOk_by (own := [("row", 8)]) (N := N_read_web) (sc := defScope s_read_web) (by decide +kernel)) (fun _ _ _ _ _ => (pg_name (i := 8) sc_read_web.nd rfl (by first | exact Or.inl rfl | exact Or.inr rfl))) (k_name (by decide)) (fun _ _ _ _ _ => ts_nil) (fun _ _ _ _ _ => (d_idx (d_var (pv 8)) d_int)))
    (s_cons (s_if (t_w (w_or (t_cmp op_gt q_gt (d_blt (call_len_seq.or call_len_str) p_len (by rfl) T.z_len (by decide +kernel) (a_cons (d_var (pv 1)) a_nil)) (T.c_MOST_PLACES (by rfl)) (nomark _)) (w_or1 (t_cmp op_gt q_gt (d_blt (call_len_seq.or call_len_str) p_len (by rfl) T.z_len (by decide +kernel) (a_cons (d_var (pv 2)) a_nil)) (T.c_MOST_TIES (by rfl)) (nomark _))))) (s_one s_bad) s_nil)
    (s_cons (s_if (t_w (w_or (t_not (t_tru (c_call C_rises (hr.mono (by omega)) (a_cons (d_var (pv 1)) a_nil)))) (w_or1 (t_not (t_tru (c_call C_rises (hr.mono (by omega)) (a_cons (d_var (pv 3)) a_nil))))))) (s_one s_bad) s_nil)
    (s_cons (s_for PassesOwn.never rfl (i_lst (d_var (pv 2))) (g_tup rfl (g_cons (g_name (i := 4) sc_read_web.nd rfl (by first | exact Or.inl rfl | exact Or.inr rfl)) (g_cons (g_name (i := 5) sc_read_web.nd rfl (by first | exact Or.inl rfl | exact Or.inr rfl)) (g_cons (g_name (i := 4) sc_read_web.nd rfl (by first | exact Or.inl rfl | exact Or.inr rfl)) (g_cons (g_name (i := 6) sc_read_web.nd rfl (by first | exact Or.inl rfl | exact Or.inr rfl)) g_nil))))) (s_one (s_if (t_w (w_or (t_cmp op_ninD (q_in true) (d_var (pv 5)) (d_var (pv 1)) (by rfl)) (w_or1 (t_cmp op_ninD (q_in true) (d_var (pv 6)) (d_var (pv 1)) (by rfl))))) (s_one s_bad) s_nil)))
    (s_cons (s_set (i := 7) sc_read_web.nd rfl (by first | exact Or.inl rfl | exact Or.inr rfl) (c_make0D C_Web___init__ (hr.mono (by omega))))
    (s_cons (s_drop (c_meth C_Web_put_back (hr.mono (by omega)) (d_var (pv 7)) (a_cons (d_tup (a_cons (d_var (pv 1)) (a_cons (d_var (pv 2)) (a_cons (c_call C_next_number (hr.mono (by omega)) (a_cons (d_var (pv 1)) a_nil)) (a_cons (c_call C_next_number (hr.mono (by omega)) (a_cons (d_var (pv 3)) a_nil)) a_nil))))) a_nil)))
    (s_one (s_ret (d_var (pv 7)))))))))))
abbrev s_Web_undo : Stmt := inClass (topS 16) 11
abbrev N_Web_undo : List Str := ["self", "mark"]
theorem sc_Web_undo : FnScope N_Web_undo ["self", "mark"] (defScope s_Web_undo) := ⟨rfl, rfl, rfl, by decide +kernel, rfl, by decide +kernel, by decide +kernel⟩
theorem ok_Web_undo (F : Fun K "undo" "Web.undo" s_Web_undo f fd) (T : Txt K mg) (C_Web_put_back : CalM P w K mg base 1 "Web" "put_back" ["self", "stand"] sem_Web_put_back)  : FnOk P w K mg base (L2.CX P w) 2 f fd ["self", "mark"] (dSpX K 2 sem_Web_undo) :=
  sem_Web_undo_eq ▸ fn_runX F sc_Web_undo fun cdv A outer s H EX hr tk =>
    (s_cons (s_if (t_not (t_chain op_le op_lt (fun _ => q_le) q_lt d_int (d_var (pv 1)) (d_blt (call_len_seq.or call_len_str) p_len (by rfl) T.z_len (by decide +kernel) (a_cons (d_fld (Classical.choice T.q_Web) (by simp) (d_var (pv 0))) a_nil)))) (s_one (s_raise (Classical.choice T.x_NoMark) tk (a_cons (d_joined (.cons d_str (.cons (d_fmt (d_var (pv 1))) (.cons d_str .nil)))) a_nil))) s_nil)
    (s_cons (s_drop (c_meth C_Web_put_back (hr.mono (by omega)) (d_var (pv 0)) (a_cons (d_idx (d_fld (Classical.choice T.q_Web) (by simp) (d_var (pv 0))) (d_var (pv 1))) a_nil)))
    (s_one (s_delF (d_fld (Classical.choice T.q_Web) (by simp) (d_var (pv 0))) (d_add (d_var (pv 1)) d_int)))))
abbrev s_Web__need_tie : Stmt := inClass (topS 16) 15
abbrev N_Web__need_tie : List Str := ["self", "tie"]
theorem sc_Web__need_tie : FnScope N_Web__need_tie ["self", "tie"] (defScope s_Web__need_tie) := ⟨rfl, rfl, rfl, by decide +kernel, rfl, by decide +kernel, by decide +kernel⟩
theorem ok_Web__need_tie (F : Fun K "_need_tie" "Web._need_tie" s_Web__need_tie f fd) (T : Txt K mg)   : FnOk P w K mg base (L2.CX P w) 1 f fd ["self", "tie"] (dSpX K 2 sem_Web__need_tie) :=
  sem_Web__need_tie_eq ▸ fn_runX F sc_Web__need_tie fun cdv A outer s H EX hr tk =>
    (s_one (s_if (t_dnin hr.units (d_var (pv 1)) (d_fld (Classical.choice T.q_Web) (by simp) (d_var (pv 0)))) (s_one (s_raise (Classical.choice T.x_NoTie) tk (a_cons (d_joined (.cons d_str (.cons (d_fmt (d_var (pv 1))) (.cons d_str .nil)))) a_nil))) s_nil))
abbrev s_Web_cut : Stmt := inClass (topS 16) 4
abbrev N_Web_cut : List Str := ["self", "tie"]
theorem sc_Web_cut : FnScope N_Web_cut ["self", "tie"] (defScope s_Web_cut) := ⟨rfl, rfl, rfl, by decide +kernel, rfl, by decide +kernel, by decide +kernel⟩
theorem ok_Web_cut (F : Fun K "cut" "Web.cut" s_Web_cut f fd) (T : Txt K mg) (C_Web__need_tie : CalMX P w K mg base 1 "Web" "_need_tie" ["self", "tie"] sem_Web__need_tie)  : FnOk P w K mg base (L2.CX P w) 2 f fd ["self", "tie"] (dSpX K 2 sem_Web_cut) :=
  sem_Web_cut_eq ▸ fn_runX F sc_Web_cut fun cdv A outer s H EX hr tk =>
    (s_cons (s_drop (c_methX C_Web__need_tie tk (hr.mono (by omega)) (d_var (pv 0)) (a_cons (d_var (pv 1)) a_nil)))
    (s_one (s_ddel (d_fld (Classical.choice T.q_Web) (by simp) (d_var (pv 0))) (d_var (pv 1)))))
abbrev s__law_alike : Stmt := topS 31
abbrev N__law_alike : List Str := ["found", "due", "k"]
theorem sc__law_alike : FnScope N__law_alike ["found", "due"] (defScope s__law_alike) := ⟨rfl, rfl, rfl, by decide +kernel, rfl, by decide +kernel, by decide +kernel⟩
theorem step__law_alike {n : Nat} (F : Fun K "_law_alike" "_law_alike" s__law_alike f fd) (T : Txt K mg)   (C_self : Cal P w K mg base (1 + n) "_law_alike" ["found", "due"] (sem__law_alike n)) : FnOk P w K mg base CX0 (1 + n + 1) f fd ["found", "due"] (dSp K 2 (sem__law_alike (n + 1))) :=
  sem__law_alike_eq n ▸ fn_run F sc__law_alike fun cdv A outer s H EX hr =>
    (s_cons (s_if (t_tru (d_is2 .list .tuple (by rfl) T.z_isinstance (pe_bltn (by rfl) T.z_list (by decide +kernel) (show RelV (V.ty "list") (Value.type "list") from rfl)) (pe_bltn (by rfl) T.z_tuple (by decide +kernel) (show RelV (V.ty "tuple") (Value.type "tuple") from rfl)) (d_var (pv 1)))) (s_cons (s_if (t_w (w_or (t_not (t_tru (d_is2 .list .tuple (by rfl) T.z_isinstance (pe_bltn (by rfl) T.z_list (by decide +kernel) (show RelV (V.ty "list") (Value.type "list") from rfl)) (pe_bltn (by rfl) T.z_tuple (by decide +kernel) (show RelV (V.ty "tuple") (Value.type "tuple") from rfl)) (d_var (pv 0))))) (w_or1 (t_cmp (op_neA hr.units) q_ne (d_is .list (by rfl) T.z_isinstance (pe_bltn (by rfl) T.z_list (by decide +kernel) (show RelV (V.ty "list") (Value.type "list") from rfl)) (d_var (pv 0))) (d_is .list (by rfl) T.z_isinstance (pe_bltn (by rfl) T.z_list (by decide +kernel) (show RelV (V.ty "list") (Value.type "list") from rfl)) (d_var (pv 1))) (nomark _))))) (s_one (s_ret d_bl)) s_nil)
    (s_cons (s_if (t_cmp (op_neA hr.units) q_ne (d_blt (call_len_seq.or call_len_str) p_len (by rfl) T.z_len (by decide +kernel) (a_cons (d_var (pv 0)) a_nil)) (d_blt (call_len_seq.or call_len_str) p_len (by rfl) T.z_len (by decide +kernel) (a_cons (d_var (pv 1)) a_nil)) (nomark _)) (s_one (s_ret d_bl)) s_nil)
    (s_one (s_ret (d_blt (cr_all rfl) p_all (by rfl) T.z_all (by decide +kernel) (a_cons (d_comp (own := [("k", 2)]) (T := (nameT 2)) endL_ok rfl sc__law_alike.nd (i_rng1 (by rfl) T.z_range (d_blt (call_len_seq.or call_len_str) p_len (by rfl) T.z_len (by decide +kernel) (a_cons (d_var (pv 1)) a_nil))) (blkOk_by (own := [("k", 2)]) (N := N__law_alike) (sc := defScope s__law_alike) (by decide +kernel)) (fun _ _ _ _ _ => (pg_name (i := 2) sc__law_alike.nd rfl (by first | exact Or.inl rfl | exact Or.inr rfl))) (k_name (by decide)) (fun _ _ _ _ _ => ts_nil) (fun _ _ _ _ _ => (c_call C_self (hr.mono (by omega)) (a_cons (d_idx (d_var (pv 0)) (d_var (pv 2))) (a_cons (d_idx (d_var (pv 1)) (d_var (pv 2))) a_nil))))) a_nil)))))) s_nil)
    (s_cons (s_if (t_w (w_or (t_cmp (op_neA hr.units) q_ne (d_is .bool (by rfl) T.z_isinstance (pe_bltn (by rfl) T.z_bool (by decide +kernel) (show RelV (V.ty "bool") (Value.type "bool") from rfl)) (d_var (pv 0))) (d_is .bool (by rfl) T.z_isinstance (pe_bltn (by rfl) T.z_bool (by decide +kernel) (show RelV (V.ty "bool") (Value.type "bool") from rfl)) (d_var (pv 1))) (nomark _)) (w_or1 (t_cmp (op_neA hr.units) q_ne (d_is .int (by rfl) T.z_isinstance (pe_bltn (by rfl) T.z_int (by decide +kernel) (show RelV (V.ty "int") (Value.type "int") from rfl)) (d_var (pv 0))) (d_is .int (by rfl) T.z_isinstance (pe_bltn (by rfl) T.z_int (by decide +kernel) (show RelV (V.ty "int") (Value.type "int") from rfl)) (d_var (pv 1))) (nomark _))))) (s_one (s_ret d_bl)) s_nil)
    (s_one (s_ret (d_andV (d_cmp (op_eqA hr.units) q_eq (d_is .str (by rfl) T.z_isinstance (pe_bltn (by rfl) T.z_str (by decide +kernel) (show RelV (V.ty "str") (Value.type "str") from rfl)) (d_var (pv 0))) (d_is .str (by rfl) T.z_isinstance (pe_bltn (by rfl) T.z_str (by decide +kernel) (show RelV (V.ty "str") (Value.type "str") from rfl)) (d_var (pv 1))) (nomark _)) (d_one (d_cmp (op_eqA hr.units) q_eq (d_var (pv 0)) (d_var (pv 1)) (nomark _))))))))
noncomputable def cal__law_alike (F : Fun K "_law_alike" "_law_alike" s__law_alike f fd) (T : Txt K mg)   (g : mg "_law_alike" = some (.ref f)) (b : Binds K fd ["found", "due"] []) : ∀ n : Nat, Cal P w K mg base (1 + n) "_law_alike" ["found", "due"] (sem__law_alike n)
  | 0 => ⟨f, fd, none_ok, g, F.kp, b⟩
  | n + 1 => ⟨f, fd, step__law_alike F T   (cal__law_alike F T   g b n), g, F.kp, b⟩
abbrev s_Web_places : Stmt := inClass (topS 16) 6
abbrev N_Web_places : List Str := ["self"]
theorem sc_Web_places : FnScope N_Web_places ["self"] (defScope s_Web_places) := ⟨rfl, rfl, rfl, by decide +kernel, rfl, by decide +kernel, by decide +kernel⟩
theorem ok_Web_places (F : Fun K "places" "Web.places" s_Web_places f fd) (T : Txt K mg)   : FnOk P w K mg base CX0 1 f fd ["self"] (dSp K 1 sem_Web_places) :=
  sem_Web_places_eq ▸ fn_run F sc_Web_places fun cdv A outer s H EX hr =>
    (s_one (s_ret (d_sortM rfl (by rfl) T.z_sorted (a_cons (d_fld (Classical.choice T.q_Web) (by simp) (d_var (pv 0))) a_nil))))
abbrev s_Web_ties : Stmt := inClass (topS 16) 7
abbrev N_Web_ties : List Str := ["self", "tie"]
theorem sc_Web_ties : FnScope N_Web_ties ["self"] (defScope s_Web_ties) := ⟨rfl, rfl, rfl, by decide +kernel, rfl, by decide +kernel, by decide +kernel⟩
theorem ok_Web_ties (F : Fun K "ties" "Web.ties" s_Web_ties f fd) (T : Txt K mg)   : FnOk P w K mg base CX0 1 f fd ["self"] (dSp K 1 sem_Web_ties) :=
  sem_Web_ties_eq ▸ fn_run F sc_Web_ties fun cdv A outer s H EX hr =>
    (s_one (s_ret (d_comp (own := [("tie", 1)]) (T := (nameT 1)) endM_ok rfl sc_Web_ties.nd (i_lst (d_sortQ rfl (by rfl) T.z_sorted (a_cons (d_fld (Classical.choice T.q_Web) (by simp) (d_var (pv 0))) a_nil))) (blkOk_by (own := [("tie", 1)]) (N := N_Web_ties) (sc := defScope s_Web_ties) (by decide +kernel)) (fun _ _ _ _ _ => (pg_name (i := 1) sc_Web_ties.nd rfl (by first | exact Or.inl rfl | exact Or.inr rfl))) (k_name (by decide)) (fun _ _ _ _ _ => ts_nil) (fun _ _ _ _ _ => (d_tup (a_cons (d_var (pv 1)) (a_star (d_dget hr.units (d_fld (Classical.choice T.q_Web) (by simp) (d_var (pv 0))) (d_var (pv 1))) a_nil)))))))
abbrev s_Web_stand : Stmt := inClass (topS 16) 12
abbrev N_Web_stand : List Str := ["self"]
theorem sc_Web_stand : FnScope N_Web_stand ["self"] (defScope s_Web_stand) := ⟨rfl, rfl, rfl, by decide +kernel, rfl, by decide +kernel, by decide +kernel⟩
theorem ok_Web_stand (F : Fun K "stand" "Web.stand" s_Web_stand f fd) (T : Txt K mg) (C_Web_places : CalM P w K mg base 1 "Web" "places" ["self"] sem_Web_places) (C_Web_ties : CalM P w K mg base 1 "Web" "ties" ["self"] sem_Web_ties)  : FnOk P w K mg base CX0 2 f fd ["self"] (dSp K 1 sem_Web_stand) :=
  sem_Web_stand_eq ▸ fn_runT F sc_Web_stand fun cdv A outer s H EX hr =>
    (s_one (s_ret (d_tup (a_cons (c_meth0 C_Web_places (hr.mono (by omega)) (d_var (pv 0))) (a_cons (c_meth0 C_Web_ties (hr.mono (by omega)) (d_var (pv 0))) (a_cons (d_fld (Classical.choice T.q_Web) (by simp) (d_var (pv 0))) (a_cons (d_fld (Classical.choice T.q_Web) (by simp) (d_var (pv 0))) a_nil)))))))
abbrev s_Web_mark : Stmt := inClass (topS 16) 10
abbrev N_Web_mark : List Str := ["self"]
theorem sc_Web_mark : FnScope N_Web_mark ["self"] (defScope s_Web_mark) := ⟨rfl, rfl, rfl, by decide +kernel, rfl, by decide +kernel, by decide +kernel⟩
theorem ok_Web_mark (F : Fun K "mark" "Web.mark" s_Web_mark f fd) (T : Txt K mg) (C_Web_stand : CalM P w K mg base 2 "Web" "stand" ["self"] sem_Web_stand)  : FnOk P w K mg base CX0 3 f fd ["self"] (dSp K 1 sem_Web_mark) :=
  sem_Web_mark_eq ▸ fn_run F sc_Web_mark fun cdv A outer s H EX hr =>
    (s_cons (s_drop (d_append (d_fld (Classical.choice T.q_Web) (by simp) (d_var (pv 0))) (c_meth0 C_Web_stand (hr.mono (by omega)) (d_var (pv 0)))))
    (s_one (s_ret (d_sub (d_blt (call_len_seq.or call_len_str) p_len (by rfl) T.z_len (by decide +kernel) (a_cons (d_fld (Classical.choice T.q_Web) (by simp) (d_var (pv 0))) a_nil)) d_int))))
abbrev s_Web__need_place : Stmt := inClass (topS 16) 14
abbrev N_Web__need_place : List Str := ["self", "place"]
theorem sc_Web__need_place : FnScope N_Web__need_place ["self", "place"] (defScope s_Web__need_place) := ⟨rfl, rfl, rfl, by decide +kernel, rfl, by decide +kernel, by decide +kernel⟩
theorem ok_Web__need_place (F : Fun K "_need_place" "Web._need_place" s_Web__need_place f fd) (T : Txt K mg)   : FnOk P w K mg base (L2.CX P w) 1 f fd ["self", "place"] (dSpX K 2 sem_Web__need_place) :=
  sem_Web__need_place_eq ▸ fn_runX F sc_Web__need_place fun cdv A outer s H EX hr tk =>
    (s_one (s_if (t_dnin hr.units (d_var (pv 1)) (d_fld (Classical.choice T.q_Web) (by simp) (d_var (pv 0)))) (s_one (s_raise (Classical.choice T.x_NoPlace) tk (a_cons (d_joined (.cons d_str (.cons (d_fmt (d_var (pv 1))) (.cons d_str .nil)))) a_nil))) s_nil))
abbrev s_Full___init__ : Stmt := inClass (topS 8) 0
abbrev N_Full___init__ : List Str := ["self", "most"]
theorem sc_Full___init__ : FnScope N_Full___init__ ["self", "most"] (defScope s_Full___init__) := ⟨rfl, rfl, rfl, by decide +kernel, rfl, by decide +kernel, by decide +kernel⟩
theorem ok_Full___init__ (F : Fun K "__init__" "Full.__init__" s_Full___init__ f fd) (T : Txt K mg) : FnOk P w K mg base CX0 1 f fd ["self", "most"] (spInit K "LookupError.__new__" [.type "LookupError", .type "Exception", .type "BaseException", .type "object"] "most") :=
  F.ok sc_Full___init__ (fun vs H Q E h => by obtain ⟨_, _, _, rfl, _⟩ := h; rfl) fun cdv A outer s H vs Q E hr h =>
    ⟨_, pss_cons (ps_expr (pe_initB baseX_lookup (by rfl) T.z_LookupError (by decide +kernel) (by decide) (by decide) T.vi_LookupError (pa_cons (pv 0) (pa_cons (pe_joined (.cons pe_str (.cons (pe_fmt (pv 1)) (.cons pe_str .nil)))) pa_nil)))) (pss_one (ps_field1 baseX_lookup (pv 0) (pv 1))), init_read (by decide) h⟩
abbrev s_Web_tie : Stmt := inClass (topS 16) 3
abbrev N_Web_tie : List Str := ["self", "start", "name", "goal", "tie"]
theorem sc_Web_tie : FnScope N_Web_tie ["self", "start", "name", "goal"] (defScope s_Web_tie) := ⟨rfl, rfl, rfl, by decide +kernel, rfl, by decide +kernel, by decide +kernel⟩
theorem ok_Web_tie (F : Fun K "tie" "Web.tie" s_Web_tie f fd) (T : Txt K mg) (C_is_name : Cal P w K mg base 1 "is_name" ["text"] sem_is_name) (C_Web__need_place : CalMX P w K mg base 1 "Web" "_need_place" ["self", "place"] sem_Web__need_place) (C_Full___init__ : CalXF P w K mg base 1 "Full" "most")  : FnOk P w K mg base (L2.CX P w) 3 f fd ["self", "start", "name", "goal"] (dSpX K 4 sem_Web_tie) :=
  sem_Web_tie_eq ▸ fn_runX F sc_Web_tie fun cdv A outer s H EX hr tk =>
    (s_cons (s_drop (c_methX C_Web__need_place tk (hr.mono (by omega)) (d_var (pv 0)) (a_cons (d_var (pv 1)) a_nil)))
    (s_cons (s_drop (c_methX C_Web__need_place tk (hr.mono (by omega)) (d_var (pv 0)) (a_cons (d_var (pv 3)) a_nil)))
    (s_cons (s_if (t_not (t_tru (c_call C_is_name (hr.mono (by omega)) (a_cons (d_var (pv 2)) a_nil)))) (s_one (s_raise (Classical.choice T.x_NoName) tk (a_cons d_str a_nil))) s_nil)
    (s_cons (s_if (t_cmp op_ge q_ge (d_lenD (by rfl) T.z_len (a_cons (d_fld (Classical.choice T.q_Web) (by simp) (d_var (pv 0))) a_nil)) (d_fld (Classical.choice T.q_Web) (by simp) (d_var (pv 0))) (nomark _)) (s_one (s_raiseF C_Full___init__ tk (hr.mono (by omega)) (d_fld (Classical.choice T.q_Web) (by simp) (d_var (pv 0))))) s_nil)
    (s_cons (s_set (i := 4) sc_Web_tie.nd rfl (by first | exact Or.inl rfl | exact Or.inr rfl) (d_fld (Classical.choice T.q_Web) (by simp) (d_var (pv 0))))
    (s_cons (s_dput hr.units (d_fld (Classical.choice T.q_Web) (by simp) (d_var (pv 0))) (d_var (pv 4)) (d_tup (a_cons (d_var (pv 1)) (a_cons (d_var (pv 2)) (a_cons (d_var (pv 3)) a_nil)))))
    (s_cons (s_fld (Classical.choice T.q_Web) (by simp) (d_var (pv 0)) (d_add (d_var (pv 4)) d_int))
    (s_one (s_ret (d_var (pv 4)))))))))))
abbrev s_Web___len__ : Stmt := inClass (topS 16) 1
abbrev N_Web___len__ : List Str := ["self"]
theorem sc_Web___len__ : FnScope N_Web___len__ ["self"] (defScope s_Web___len__) := ⟨rfl, rfl, rfl, by decide +kernel, rfl, by decide +kernel, by decide +kernel⟩
theorem ok_Web___len__ (F : Fun K "__len__" "Web.__len__" s_Web___len__ f fd) (T : Txt K mg)   : FnOk P w K mg base CX0 1 f fd ["self"] (dSp K 1 sem_Web___len__) :=
  sem_Web___len___eq ▸ fn_run F sc_Web___len__ fun cdv A outer s H EX hr =>
    (s_one (s_ret (d_lenD (by rfl) T.z_len (a_cons (d_fld (Classical.choice T.q_Web) (by simp) (d_var (pv 0))) a_nil))))
abbrev s_Web_place : Stmt := inClass (topS 16) 2
abbrev N_Web_place : List Str := ["self", "place"]
theorem sc_Web_place : FnScope N_Web_place ["self"] (defScope s_Web_place) := ⟨rfl, rfl, rfl, by decide +kernel, rfl, by decide +kernel, by decide +kernel⟩
theorem ok_Web_place (F : Fun K "place" "Web.place" s_Web_place f fd) (T : Txt K mg) (C_Full___init__ : CalXF P w K mg base 1 "Full" "most")  : FnOk P w K mg base (L2.CX P w) 3 f fd ["self"] (dSpX K 1 sem_Web_place) :=
  sem_Web_place_eq ▸ fn_runX F sc_Web_place fun cdv A outer s H EX hr tk =>
    (s_cons (s_if (t_cmp op_ge q_ge (d_lenD (by rfl) T.z_len (a_cons (d_fld (Classical.choice T.q_Web) (by simp) (d_var (pv 0))) a_nil)) (d_fld (Classical.choice T.q_Web) (by simp) (d_var (pv 0))) (nomark _)) (s_one (s_raiseF C_Full___init__ tk (hr.mono (by omega)) (d_fld (Classical.choice T.q_Web) (by simp) (d_var (pv 0))))) s_nil)
    (s_cons (s_set (i := 1) sc_Web_place.nd rfl (by first | exact Or.inl rfl | exact Or.inr rfl) (d_fld (Classical.choice T.q_Web) (by simp) (d_var (pv 0))))
    (s_cons (s_dput hr.units (d_fld (Classical.choice T.q_Web) (by simp) (d_var (pv 0))) (d_var (pv 1)) d_bl)
    (s_cons (s_fld (Classical.choice T.q_Web) (by simp) (d_var (pv 0)) (d_add (d_var (pv 1)) d_int))
    (s_one (s_ret (d_var (pv 1))))))))
abbrev s_Web_ties_at : Stmt := inClass (topS 16) 9
abbrev N_Web_ties_at : List Str := ["self", "place", "tie", "start", "_", "goal"]
theorem sc_Web_ties_at : FnScope N_Web_ties_at ["self", "place"] (defScope s_Web_ties_at) := ⟨rfl, rfl, rfl, by decide +kernel, rfl, by decide +kernel, by decide +kernel⟩
theorem ok_Web_ties_at (F : Fun K "ties_at" "Web.ties_at" s_Web_ties_at f fd) (T : Txt K mg) (C_Web_ties : CalM P w K mg base 1 "Web" "ties" ["self"] sem_Web_ties) (C_Web__need_place : CalMX P w K mg base 1 "Web" "_need_place" ["self", "place"] sem_Web__need_place)  : FnOk P w K mg base (L2.CX P w) 2 f fd ["self", "place"] (dSpX K 2 sem_Web_ties_at) :=
  sem_Web_ties_at_eq ▸ fn_runX F sc_Web_ties_at fun cdv A outer s H EX hr tk =>
    (s_cons (s_drop (c_methX C_Web__need_place tk (hr.mono (by omega)) (d_var (pv 0)) (a_cons (d_var (pv 1)) a_nil)))
    (s_one (s_ret (d_comp (own := [("tie", 2), ("start", 3), ("_", 4), ("goal", 5)]) (T := (tupT 4 (consT (nameT 2) (consT (nameT 3) (consT (nameT 4) (consT (nameT 5) nilT)))))) endM_ok rfl sc_Web_ties_at.nd (i_lst (c_meth0 C_Web_ties (hr.mono (by omega)) (d_var (pv 0)))) (blkOk_by (own := [("tie", 2), ("start", 3), ("_", 4), ("goal", 5)]) (N := N_Web_ties_at) (sc := defScope s_Web_ties_at) (by decide +kernel)) (fun _ _ _ _ _ => (pg_tup rfl (pgs_cons (pg_name (i := 2) sc_Web_ties_at.nd rfl (by first | exact Or.inl rfl | exact Or.inr rfl)) (pgs_cons (pg_name (i := 3) sc_Web_ties_at.nd rfl (by first | exact Or.inl rfl | exact Or.inr rfl)) (pgs_cons (pg_name (i := 4) sc_Web_ties_at.nd rfl (by first | exact Or.inl rfl | exact Or.inr rfl)) (pgs_cons (pg_name (i := 5) sc_Web_ties_at.nd rfl (by first | exact Or.inl rfl | exact Or.inr rfl)) pgs_nil)))))) (k_tup (k_cons (by decide) (k_cons (by decide) (k_cons (by decide) (k_cons (by decide) k_nil))))) (fun _ _ _ _ _ => (ts_one (t_cmp op_inD (q_in false) (d_var (pv 1)) (d_tup (a_cons (d_var (pv 3)) (a_cons (d_var (pv 5)) a_nil))) (by rfl)))) (fun _ _ _ _ _ => (d_var (pv 2)))))))
abbrev s_Web_drop : Stmt := inClass (topS 16) 5
abbrev N_Web_drop : List Str := ["self", "place"]
theorem sc_Web_drop : FnScope N_Web_drop ["self", "place"] (defScope s_Web_drop) := ⟨rfl, rfl, rfl, by decide +kernel, rfl, by decide +kernel, by decide +kernel⟩
theorem ok_Web_drop (F : Fun K "drop" "Web.drop" s_Web_drop f fd) (T : Txt K mg) (C_Web_ties_at : CalMX P w K mg base 2 "Web" "ties_at" ["self", "place"] sem_Web_ties_at)  : FnOk P w K mg base (L2.CX P w) 3 f fd ["self", "place"] (dSpX K 2 sem_Web_drop) :=
  sem_Web_drop_eq ▸ fn_runX F sc_Web_drop fun cdv A outer s H EX hr tk =>
    (s_cons (s_if (t_tru (c_methX C_Web_ties_at tk (hr.mono (by omega)) (d_var (pv 0)) (a_cons (d_var (pv 1)) a_nil))) (s_one (s_raise (Classical.choice T.x_Tied) tk (a_cons (d_joined (.cons d_str (.cons (d_fmt (d_var (pv 1))) .nil))) a_nil))) s_nil)
    (s_one (s_ddel (d_fld (Classical.choice T.q_Web) (by simp) (d_var (pv 0))) (d_var (pv 1)))))
abbrev s__law_refusal : Stmt := topS 39
abbrev N__law_refusal : List Str := ["net", "word", "place", "told"]
theorem sc__law_refusal : FnScope N__law_refusal ["net", "word", "place"] (defScope s__law_refusal) := ⟨rfl, rfl, rfl, by decide +kernel, rfl, by decide +kernel, by decide +kernel⟩
theorem ok__law_refusal (F : Fun K "_law_refusal" "_law_refusal" s__law_refusal f fd) (T : Txt K mg) (C_Web_tie : CalMX P w K mg base 3 "Web" "tie" ["self", "start", "name", "goal"] sem_Web_tie) (C_Web_place : CalMX P w K mg base 3 "Web" "place" ["self"] sem_Web_place) (C_Web_drop : CalMX P w K mg base 3 "Web" "drop" ["self", "place"] sem_Web_drop)  : FnOk P w K mg base CX0 4 f fd ["net", "word", "place"] (dSp K 3 sem__law_refusal) :=
  sem__law_refusal_eq ▸ fn_run F sc__law_refusal fun cdv A outer s H EX hr =>
    (s_cons (s_set (i := 3) sc__law_refusal.nd rfl (by first | exact Or.inl rfl | exact Or.inr rfl) d_str)
    (s_cons (s_tryC (hN := sc__law_refusal.nd) (.cons0 (Classical.choice T.v_Full) (.one (by rfl) (by decide)) rfl (fun a pn => (s_one (s_set (i := 3) sc__law_refusal.nd rfl (by first | exact Or.inl rfl | exact Or.inr rfl) d_str))) (.cons0 (Classical.choice T.v_NoPlace) (.one (by rfl) (by decide)) rfl (fun a pn => (s_one (s_set (i := 3) sc__law_refusal.nd rfl (by first | exact Or.inl rfl | exact Or.inr rfl) d_str))) (.cons0 (Classical.choice T.v_Tied) (.one (by rfl) (by decide)) rfl (fun a pn => (s_one (s_set (i := 3) sc__law_refusal.nd rfl (by first | exact Or.inl rfl | exact Or.inr rfl) d_str))) .nil))) takesN (fun E1 pn xe tk => (s_one (s_if (t_cmp (op_eqA hr.units) q_eq (d_var (pv 1)) d_str (nomark _)) (s_one (s_drop (c_methX0 C_Web_place tk (hr.mono (by omega)) (d_var (pv 0))))) (s_one (s_if (t_cmp (op_eqA hr.units) q_eq (d_var (pv 1)) d_str (nomark _)) (s_one (s_drop (c_methX C_Web_tie tk (hr.mono (by omega)) (d_var (pv 0)) (a_cons (d_var (pv 2)) (a_cons d_str (a_cons (d_var (pv 2)) a_nil)))))) (s_one (s_drop (c_methX C_Web_drop tk (hr.mono (by omega)) (d_var (pv 0)) (a_cons (d_var (pv 2)) a_nil))))))))))
    (s_one (s_ret (d_var (pv 3))))))
abbrev s__law_filled : Stmt := topS 40
abbrev N__law_filled : List Str := ["bag", "net", "places", "ties", "next_one", "k", "whole_row"]
theorem sc__law_filled : FnScope N__law_filled ["bag", "net", "places", "ties", "next_one"] (defScope s__law_filled) := ⟨rfl, rfl, rfl, by decide +kernel, rfl, by decide +kernel, by decide +kernel⟩
theorem ok__law_filled (F : Fun K "_law_filled" "_law_filled" s__law_filled f fd) (T : Txt K mg) (C__law_draw : Cal P w K mg base 2 "_law_draw" ["bag", "many"] sem__law_draw) (C__law_alike : Cal P w K mg base 6 "_law_alike" ["found", "due"] (sem__law_alike 5)) (C_Web_tie : CalMX P w K mg base 3 "Web" "tie" ["self", "start", "name", "goal"] sem_Web_tie) (C_Web___len__ : CalM P w K mg base 1 "Web" "__len__" ["self"] sem_Web___len__) (C_Web_place : CalMX P w K mg base 3 "Web" "place" ["self"] sem_Web_place) (C__law_refusal : Cal P w K mg base 4 "_law_refusal" ["net", "word", "place"] sem__law_refusal)  : FnOk P w K mg base CX0 7 f fd ["bag", "net", "places", "ties", "next_one"] (dSp K 5 sem__law_filled) :=
  sem__law_filled_eq ▸ fn_run F sc__law_filled fun cdv A outer s H EX hr =>
    (s_cons (s_for PassesOwn.never rfl (i_rng1 (by rfl) T.z_range (d_sub d_int (d_blt (call_len_seq.or call_len_str) p_len (by rfl) T.z_len (by decide +kernel) (a_cons (d_var (pv 2)) a_nil)))) (g_name (i := 5) sc__law_filled.nd rfl (by first | exact Or.inl rfl | exact Or.inr rfl)) (s_one (s_if (t_not (t_tru (c_call C__law_alike (hr.mono (by omega)) (a_cons (c_methX0 C_Web_place takesN (hr.mono (by omega)) (d_var (pv 1))) (a_cons (d_add (d_var (pv 4)) (d_var (pv 5))) a_nil))))) (s_one (s_ret d_bl)) s_nil)))
    (s_cons (s_set (i := 6) sc__law_filled.nd rfl (by first | exact Or.inl rfl | exact Or.inr rfl) (d_add (d_var (pv 2)) (d_comp (own := [("k", 5)]) (T := (nameT 5)) endL_ok rfl sc__law_filled.nd (i_rng1 (by rfl) T.z_range (d_sub d_int (d_blt (call_len_seq.or call_len_str) p_len (by rfl) T.z_len (by decide +kernel) (a_cons (d_var (pv 2)) a_nil)))) (blkOk_by (own := [("k", 5)]) (N := N__law_filled) (sc := defScope s__law_filled) (by decide +kernel)) (fun _ _ _ _ _ => (pg_name (i := 5) sc__law_filled.nd rfl (by first | exact Or.inl rfl | exact Or.inr rfl))) (k_name (by decide)) (fun _ _ _ _ _ => ts_nil) (fun _ _ _ _ _ => (d_add (d_var (pv 4)) (d_var (pv 5)))))))
    (s_cons (s_if (t_w (w_or (t_cmp (op_neA hr.units) q_ne (c_call C__law_refusal (hr.mono (by omega)) (a_cons (d_var (pv 1)) (a_cons d_str (a_cons d_int a_nil)))) d_str (nomark _)) (w_or1 (t_cmp (op_neA hr.units) q_ne (c_call C__law_refusal (hr.mono (by omega)) (a_cons (d_var (pv 1)) (a_cons d_str (a_cons (d_add (d_var (pv 4)) d_int) a_nil)))) d_str (nomark _))))) (s_one (s_ret d_bl)) s_nil)
    (s_cons (s_for PassesOwn.never rfl (i_rng1 (by rfl) T.z_range (d_sub d_int (d_blt (call_len_seq.or call_len_str) p_len (by rfl) T.z_len (by decide +kernel) (a_cons (d_var (pv 3)) a_nil)))) (g_name (i := 5) sc__law_filled.nd rfl (by first | exact Or.inl rfl | exact Or.inr rfl)) (s_one (s_drop (c_methX C_Web_tie takesN (hr.mono (by omega)) (d_var (pv 1)) (a_cons (d_idx (d_var (pv 6)) (d_mod (d_var (pv 5)) d_int)) (a_cons d_str (a_cons (d_idx (d_var (pv 6)) (c_call C__law_draw (hr.mono (by omega)) (a_cons (d_var (pv 0)) (a_cons d_int a_nil)))) a_nil)))))))
    (s_one (s_ret (d_andV (d_cmp (op_eqA hr.units) q_eq (c_call C__law_refusal (hr.mono (by omega)) (a_cons (d_var (pv 1)) (a_cons d_str (a_cons (d_idx (d_var (pv 6)) d_int) a_nil)))) d_str (nomark _)) (d_one (d_cmp (op_eqA hr.units) q_eq (d_lenO C_Web___len__ (hr.mono (by omega)) (d_var (pv 1)) (by rfl) T.z_len) d_int (nomark _))))))))))
abbrev s_web_text : Stmt := topS 20
abbrev N_web_text : List Str := ["web", "rows", "place", "tie", "start", "name", "goal"]
theorem sc_web_text : FnScope N_web_text ["web"] (defScope s_web_text) := ⟨rfl, rfl, rfl, by decide +kernel, rfl, by decide +kernel, by decide +kernel⟩
theorem ok_web_text (F : Fun K "web_text" "web_text" s_web_text f fd) (T : Txt K mg) (C_Web_places : CalM P w K mg base 1 "Web" "places" ["self"] sem_Web_places) (C_Web_ties : CalM P w K mg base 1 "Web" "ties" ["self"] sem_Web_ties)  : FnOk P w K mg base CX0 2 f fd ["web"] (dSp K 1 sem_web_text) :=
  sem_web_text_eq ▸ fn_runT F sc_web_text fun cdv A outer s H EX hr =>
    (s_cons (s_setComp (i := 1) (own := [("place", 2)]) (T := (nameT 2)) endM_ok rfl sc_web_text.nd rfl rfl (sw_true rfl rfl rfl (by decide +kernel)) (i_lst (c_meth0 C_Web_places (hr.mono (by omega)) (d_var (pv 0)))) (blkOk_by (own := [("place", 2)]) (N := N_web_text) (sc := defScope s_web_text) (by decide +kernel)) (fun _ _ _ _ _ => (pg_name (i := 2) sc_web_text.nd rfl (by first | exact Or.inl rfl | exact Or.inr rfl))) (k_name (by decide)) (fun _ _ _ _ _ => ts_nil) (fun _ _ _ _ _ => (d_joined (.cons d_str (.cons (d_fmt (d_var (pv 2))) .nil)))))
    (s_cons (s_drop (d_extA (d_var (pv 1)) (d_comp (own := [("tie", 3), ("start", 4), ("name", 5), ("goal", 6)]) (T := (tupT 4 (consT (nameT 3) (consT (nameT 4) (consT (nameT 5) (consT (nameT 6) nilT)))))) endL_ok rfl sc_web_text.nd (i_lst (c_meth0 C_Web_ties (hr.mono (by omega)) (d_var (pv 0)))) (blkOk_by (own := [("tie", 3), ("start", 4), ("name", 5), ("goal", 6)]) (N := N_web_text) (sc := defScope s_web_text) (by decide +kernel)) (fun _ _ _ _ _ => (pg_tup rfl (pgs_cons (pg_name (i := 3) sc_web_text.nd rfl (by first | exact Or.inl rfl | exact Or.inr rfl)) (pgs_cons (pg_name (i := 4) sc_web_text.nd rfl (by first | exact Or.inl rfl | exact Or.inr rfl)) (pgs_cons (pg_name (i := 5) sc_web_text.nd rfl (by first | exact Or.inl rfl | exact Or.inr rfl)) (pgs_cons (pg_name (i := 6) sc_web_text.nd rfl (by first | exact Or.inl rfl | exact Or.inr rfl)) pgs_nil)))))) (k_tup (k_cons (by decide) (k_cons (by decide) (k_cons (by decide) (k_cons (by decide) k_nil))))) (fun _ _ _ _ _ => ts_nil) (fun _ _ _ _ _ => (d_joined (.cons d_str (.cons (d_fmt (d_var (pv 3))) (.cons d_str (.cons (d_fmt (d_var (pv 4))) (.cons d_str (.cons (d_fmt (d_var (pv 5))) (.cons d_str (.cons (d_fmt (d_var (pv 6))) .nil)))))))))))))
    (s_one (s_ret (d_join d_str (d_var (pv 1)))))))
abbrev s__law_as_a_web : Stmt := topS 41
abbrev N__law_as_a_web : List Str := ["bag", "net", "places", "ties", "borne", "place", "left", "tie"]
theorem sc__law_as_a_web : FnScope N__law_as_a_web ["bag", "net", "places", "ties"] (defScope s__law_as_a_web) := ⟨rfl, rfl, rfl, by decide +kernel, rfl, by decide +kernel, by decide +kernel⟩
theorem ok__law_as_a_web (F : Fun K "_law_as_a_web" "_law_as_a_web" s__law_as_a_web f fd) (T : Txt K mg) (C__law_draw : Cal P w K mg base 2 "_law_draw" ["bag", "many"] sem__law_draw) (C__law_web_written : Cal P w K mg base 1 "_law_web_written" ["places", "ties"] sem__law_web_written) (C_Web_undo : CalMX P w K mg base 2 "Web" "undo" ["self", "mark"] sem_Web_undo) (C_Web_cut : CalMX P w K mg base 2 "Web" "cut" ["self", "tie"] sem_Web_cut) (C__law_alike : Cal P w K mg base 6 "_law_alike" ["found", "due"] (sem__law_alike 5)) (C_Web_places : CalM P w K mg base 1 "Web" "places" ["self"] sem_Web_places) (C_Web_ties : CalM P w K mg base 1 "Web" "ties" ["self"] sem_Web_ties) (C_Web_mark : CalM P w K mg base 3 "Web" "mark" ["self"] sem_Web_mark) (C__law_refusal : Cal P w K mg base 4 "_law_refusal" ["net", "word", "place"] sem__law_refusal) (C__law_filled : Cal P w K mg base 7 "_law_filled" ["bag", "net", "places", "ties", "next_one"] sem__law_filled) (C_web_text : Cal P w K mg base 2 "web_text" ["web"] sem_web_text)  : FnOk P w K mg base CX0 8 f fd ["bag", "net", "places", "ties"] (dSp K 4 sem__law_as_a_web) :=
  sem__law_as_a_web_eq ▸ fn_run F sc__law_as_a_web fun cdv A outer s H EX hr =>
    (s_cons (s_if (t_not (t_tru (c_call C__law_alike (hr.mono (by omega)) (a_cons (c_meth0 C_Web_mark (hr.mono (by omega)) (d_var (pv 1))) (a_cons d_int a_nil))))) (s_one (s_ret d_bl)) s_nil)
    (s_cons (s_set (i := 4) sc__law_as_a_web.nd rfl (by first | exact Or.inl rfl | exact Or.inr rfl) (d_comp (own := [("place", 5)]) (T := (nameT 5)) endL_ok rfl sc__law_as_a_web.nd (i_lst (d_var (pv 2))) (blkOk_by (own := [("place", 5)]) (N := N__law_as_a_web) (sc := defScope s__law_as_a_web) (by decide +kernel)) (fun _ _ _ _ _ => (pg_name (i := 5) sc__law_as_a_web.nd rfl (by first | exact Or.inl rfl | exact Or.inr rfl))) (k_name (by decide)) (fun _ _ _ _ _ => (ts_one (t_cmp (op_neA hr.units) q_ne (d_comp (own := [("tie", 7)]) (T := (nameT 7)) endL_ok rfl sc__law_as_a_web.nd (i_lst (d_var (pv 3))) (blkOk_by (own := [("tie", 7)]) (N := N__law_as_a_web) (by kernel_rfl)) (fun _ _ _ _ _ => (pg_name (i := 7) sc__law_as_a_web.nd rfl (by first | exact Or.inl rfl | exact Or.inr rfl))) (k_name (by decide)) (fun _ _ _ _ _ => (ts_one (t_cmp op_inD (q_in false) (d_var (pv 5)) (d_lst (a_cons (d_idx (d_var (pv 7)) d_int) (a_cons (d_idx (d_var (pv 7)) d_int) a_nil))) (by rfl)))) (fun _ _ _ _ _ => (d_var (pv 7)))) (d_lst a_nil) (nomark _)))) (fun _ _ _ _ _ => (d_var (pv 5)))))
    (s_cons (s_for PassesOwn.never rfl (i_lst (d_slice (d_var (pv 2)) o_none (o_some d_int))) (g_name (i := 5) sc__law_as_a_web.nd rfl (by first | exact Or.inl rfl | exact Or.inr rfl)) (s_one (s_if (t_cmp (op_neA hr.units) q_ne (c_call C__law_refusal (hr.mono (by omega)) (a_cons (d_var (pv 1)) (a_cons d_str (a_cons (d_var (pv 5)) a_nil)))) (d_idx (d_lst (a_cons d_str (a_cons d_str a_nil))) (d_bty (call_int1.or call_int_str) p_toIntT (by rfl) T.z_int (by decide +kernel) (a_cons (d_cmp op_inD (q_in false) (d_var (pv 5)) (d_var (pv 4)) (by rfl)) a_nil))) (nomark _)) (s_one (s_ret d_bl)) s_nil)))
    (s_cons (s_setComp (i := 6) (own := [("place", 5)]) (T := (nameT 5)) endL_ok rfl sc__law_as_a_web.nd rfl rfl (sw_true rfl rfl rfl (by decide +kernel)) (i_lst (d_var (pv 2))) (blkOk_by (own := [("place", 5)]) (N := N__law_as_a_web) (sc := defScope s__law_as_a_web) (by decide +kernel)) (fun _ _ _ _ _ => (pg_name (i := 5) sc__law_as_a_web.nd rfl (by first | exact Or.inl rfl | exact Or.inr rfl))) (k_name (by decide)) (fun _ _ _ _ _ => (ts_one (t_w (w_or (t_cmp op_inD (q_in false) (d_var (pv 5)) (d_var (pv 4)) (by rfl)) (w_or1 (t_cmp op_ninD (q_in true) (d_var (pv 5)) (d_slice (d_var (pv 2)) o_none (o_some d_int)) (by rfl))))))) (fun _ _ _ _ _ => (d_var (pv 5))))
    (s_cons (s_if (t_w (w_or (t_not (t_tru (c_call C__law_alike (hr.mono (by omega)) (a_cons (c_meth0 C_Web_places (hr.mono (by omega)) (d_var (pv 1))) (a_cons (d_var (pv 6)) a_nil))))) (w_or1 (t_not (t_tru (c_call C__law_alike (hr.mono (by omega)) (a_cons (c_meth0 C_Web_ties (hr.mono (by omega)) (d_var (pv 1))) (a_cons (d_var (pv 3)) a_nil)))))))) (s_one (s_ret d_bl)) s_nil)
    (s_cons (s_if (t_not (t_tru (c_call C__law_filled (hr.mono (by omega)) (a_cons (d_var (pv 0)) (a_cons (d_var (pv 1)) (a_cons (d_var (pv 6)) (a_cons (d_var (pv 3)) (a_cons (d_add (d_maxd rfl hr.units (by rfl) T.z_max (d_var (pv 2)) (d_neg d_int)) d_int) a_nil)))))))) (s_one (s_ret d_bl)) s_nil)
    (s_cons (s_if (t_cmp (op_neA hr.units) q_ne (d_var (pv 3)) (d_lst a_nil) (nomark _)) (s_one (s_drop (c_methX C_Web_cut takesN (hr.mono (by omega)) (d_var (pv 1)) (a_cons (d_idx (d_idx (d_var (pv 3)) (c_call C__law_draw (hr.mono (by omega)) (a_cons (d_var (pv 0)) (a_cons (d_blt (call_len_seq.or call_len_str) p_len (by rfl) T.z_len (by decide +kernel) (a_cons (d_var (pv 3)) a_nil)) a_nil)))) d_int) a_nil)))) s_nil)
    (s_cons (s_drop (c_methX C_Web_undo takesN (hr.mono (by omega)) (d_var (pv 1)) (a_cons d_int a_nil)))
    (s_cons (s_if (t_cmp (op_neA hr.units) q_ne (c_call C_web_text (hr.mono (by omega)) (a_cons (d_var (pv 1)) a_nil)) (c_call C__law_web_written (hr.mono (by omega)) (a_cons (d_var (pv 2)) (a_cons (d_var (pv 3)) a_nil))) (nomark _)) (s_one (s_ret d_bl)) s_nil)
    (s_one (s_ret (d_andV (c_call C__law_alike (hr.mono (by omega)) (a_cons (c_meth0 C_Web_places (hr.mono (by omega)) (d_var (pv 1))) (a_cons (d_var (pv 2)) a_nil))) (d_one (c_call C__law_alike (hr.mono (by omega)) (a_cons (c_meth0 C_Web_ties (hr.mono (by omega)) (d_var (pv 1))) (a_cons (d_var (pv 3)) a_nil))))))))))))))))
abbrev s__law_more_right : Stmt := topS 38
abbrev N__law_more_right : List Str := ["bag", "net", "places", "ties", "first", "second", "ends", "gone", "tie"]
theorem sc__law_more_right : FnScope N__law_more_right ["bag", "net", "places", "ties"] (defScope s__law_more_right) := ⟨rfl, rfl, rfl, by decide +kernel, rfl, by decide +kernel, by decide +kernel⟩
theorem ok__law_more_right (F : Fun K "_law_more_right" "_law_more_right" s__law_more_right f fd) (T : Txt K mg) (C__law_draw : Cal P w K mg base 2 "_law_draw" ["bag", "many"] sem__law_draw) (C__law_web_written : Cal P w K mg base 1 "_law_web_written" ["places", "ties"] sem__law_web_written) (C_Web_cut : CalMX P w K mg base 2 "Web" "cut" ["self", "tie"] sem_Web_cut) (C__law_alike : Cal P w K mg base 6 "_law_alike" ["found", "due"] (sem__law_alike 5)) (C_Web_places : CalM P w K mg base 1 "Web" "places" ["self"] sem_Web_places) (C_Web_ties : CalM P w K mg base 1 "Web" "ties" ["self"] sem_Web_ties) (C_Web_tie : CalMX P w K mg base 3 "Web" "tie" ["self", "start", "name", "goal"] sem_Web_tie) (C_Web_place : CalMX P w K mg base 3 "Web" "place" ["self"] sem_Web_place) (C_web_text : Cal P w K mg base 2 "web_text" ["web"] sem_web_text)  : FnOk P w K mg base CX0 7 f fd ["bag", "net", "places", "ties"] (dSp K 4 sem__law_more_right) :=
  sem__law_more_right_eq ▸ fn_run F sc__law_more_right fun cdv A outer s H EX hr =>
    (s_cons (s_set (i := 4) sc__law_more_right.nd rfl (by first | exact Or.inl rfl | exact Or.inr rfl) (d_add (d_maxd rfl hr.units (by rfl) T.z_max (d_var (pv 2)) (d_neg d_int)) d_int))
    (s_cons (s_set (i := 5) sc__law_more_right.nd rfl (by first | exact Or.inl rfl | exact Or.inr rfl) (d_add (d_maxd rfl hr.units (by rfl) T.z_max (d_comp (own := [("tie", 8)]) (T := (nameT 8)) endL_ok rfl sc__law_more_right.nd (i_lst (d_var (pv 3))) (blkOk_by (own := [("tie", 8)]) (N := N__law_more_right) (sc := defScope s__law_more_right) (by decide +kernel)) (fun _ _ _ _ _ => (pg_name (i := 8) sc__law_more_right.nd rfl (by first | exact Or.inl rfl | exact Or.inr rfl))) (k_name (by decide)) (fun _ _ _ _ _ => ts_nil) (fun _ _ _ _ _ => (d_idx (d_var (pv 8)) d_int))) (d_neg d_int)) d_int))
    (s_cons (s_if (t_cmp op_lt q_lt (d_blt (call_len_seq.or call_len_str) p_len (by rfl) T.z_len (by decide +kernel) (a_cons (d_var (pv 2)) a_nil)) d_int (nomark _)) (s_cons (s_if (t_not (t_tru (c_call C__law_alike (hr.mono (by omega)) (a_cons (c_methX0 C_Web_place takesN (hr.mono (by omega)) (d_var (pv 1))) (a_cons (d_var (pv 4)) a_nil))))) (s_one (s_ret d_bl)) s_nil)
    (s_one (s_set (i := 2) sc__law_more_right.nd rfl (by first | exact Or.inl rfl | exact Or.inr rfl) (d_add (d_var (pv 2)) (d_lst (a_cons (d_var (pv 4)) a_nil)))))) s_nil)
    (s_cons (s_if (t_w (w_and (t_cmp (op_neA hr.units) q_ne (d_var (pv 2)) (d_lst a_nil) (nomark _)) (w_and1 (t_cmp op_lt q_lt (d_blt (call_len_seq.or call_len_str) p_len (by rfl) T.z_len (by decide +kernel) (a_cons (d_var (pv 3)) a_nil)) d_int (nomark _))))) (s_cons (s_set (i := 6) sc__law_more_right.nd rfl (by first | exact Or.inl rfl | exact Or.inr rfl) (d_lst (a_cons (d_idx (d_var (pv 2)) (c_call C__law_draw (hr.mono (by omega)) (a_cons (d_var (pv 0)) (a_cons (d_blt (call_len_seq.or call_len_str) p_len (by rfl) T.z_len (by decide +kernel) (a_cons (d_var (pv 2)) a_nil)) a_nil)))) (a_cons (d_idx (d_var (pv 2)) (d_neg d_int)) a_nil))))
    (s_cons (s_if (t_not (t_tru (c_call C__law_alike (hr.mono (by omega)) (a_cons (c_methX C_Web_tie takesN (hr.mono (by omega)) (d_var (pv 1)) (a_cons (d_idx (d_var (pv 6)) d_int) (a_cons d_str (a_cons (d_idx (d_var (pv 6)) d_int) a_nil)))) (a_cons (d_var (pv 5)) a_nil))))) (s_one (s_ret d_bl)) s_nil)
    (s_one (s_set (i := 3) sc__law_more_right.nd rfl (by first | exact Or.inl rfl | exact Or.inr rfl) (d_add (d_var (pv 3)) (d_lst (a_cons (d_tup (a_cons (d_var (pv 5)) (a_cons (d_idx (d_var (pv 6)) d_int) (a_cons d_str (a_cons (d_idx (d_var (pv 6)) d_int) a_nil))))) a_nil))))))) s_nil)
    (s_cons (s_if (t_cmp (op_neA hr.units) q_ne (d_var (pv 3)) (d_lst a_nil) (nomark _)) (s_cons (s_set (i := 7) sc__law_more_right.nd rfl (by first | exact Or.inl rfl | exact Or.inr rfl) (d_idx (d_var (pv 3)) (c_call C__law_draw (hr.mono (by omega)) (a_cons (d_var (pv 0)) (a_cons (d_blt (call_len_seq.or call_len_str) p_len (by rfl) T.z_len (by decide +kernel) (a_cons (d_var (pv 3)) a_nil)) a_nil)))))
    (s_cons (s_drop (c_methX C_Web_cut takesN (hr.mono (by omega)) (d_var (pv 1)) (a_cons (d_idx (d_var (pv 7)) d_int) a_nil)))
    (s_one (s_setComp (i := 3) (own := [("tie", 8)]) (T := (nameT 8)) endL_ok rfl sc__law_more_right.nd rfl rfl (sw_true rfl rfl rfl (by decide +kernel)) (i_lst (d_var (pv 3))) (blkOk_by (own := [("tie", 8)]) (N := N__law_more_right) (sc := defScope s__law_more_right) (by decide +kernel)) (fun _ _ _ _ _ => (pg_name (i := 8) sc__law_more_right.nd rfl (by first | exact Or.inl rfl | exact Or.inr rfl))) (k_name (by decide)) (fun _ _ _ _ _ => (ts_one (t_cmp (op_neA hr.units) q_ne (d_var (pv 8)) (d_var (pv 7)) (nomark _)))) (fun _ _ _ _ _ => (d_var (pv 8))))))) s_nil)
    (s_cons (s_if (t_w (w_or (t_not (t_tru (c_call C__law_alike (hr.mono (by omega)) (a_cons (c_meth0 C_Web_places (hr.mono (by omega)) (d_var (pv 1))) (a_cons (d_var (pv 2)) a_nil))))) (w_or1 (t_not (t_tru (c_call C__law_alike (hr.mono (by omega)) (a_cons (c_meth0 C_Web_ties (hr.mono (by omega)) (d_var (pv 1))) (a_cons (d_var (pv 3)) a_nil)))))))) (s_one (s_ret d_bl)) s_nil)
    (s_one (s_ret (d_cmp (op_eqA hr.units) q_eq (c_call C_web_text (hr.mono (by omega)) (a_cons (d_var (pv 1)) a_nil)) (c_call C__law_web_written (hr.mono (by omega)) (a_cons (d_var (pv 2)) (a_cons (d_var (pv 3)) a_nil))) (nomark _))))))))))
abbrev s__law_no_mark : Stmt := topS 36
abbrev N__law_no_mark : List Str := ["net", "refused"]
theorem sc__law_no_mark : FnScope N__law_no_mark ["net"] (defScope s__law_no_mark) := ⟨rfl, rfl, rfl, by decide +kernel, rfl, by decide +kernel, by decide +kernel⟩
theorem ok__law_no_mark (F : Fun K "_law_no_mark" "_law_no_mark" s__law_no_mark f fd) (T : Txt K mg) (C_Web_undo : CalMX P w K mg base 2 "Web" "undo" ["self", "mark"] sem_Web_undo)  : FnOk P w K mg base CX0 3 f fd ["net"] (dSp K 1 sem__law_no_mark) :=
  sem__law_no_mark_eq ▸ fn_run F sc__law_no_mark fun cdv A outer s H EX hr =>
    (s_cons (s_set (i := 1) sc__law_no_mark.nd rfl (by first | exact Or.inl rfl | exact Or.inr rfl) d_bl)
    (s_cons (s_try (Classical.choice T.t_NoMark) takesN (fun E1 pn xe tk => (s_one (s_drop (c_methX C_Web_undo tk (hr.mono (by omega)) (d_var (pv 0)) (a_cons d_int a_nil))))) (fun a oe pn => (s_one (s_set (i := 1) sc__law_no_mark.nd rfl (by first | exact Or.inl rfl | exact Or.inr rfl) d_bl))))
    (s_one (s_ret (d_var (pv 1))))))
abbrev s_Web_ends_of : Stmt := inClass (topS 16) 8
abbrev N_Web_ends_of : List Str := ["self", "tie"]
theorem sc_Web_ends_of : FnScope N_Web_ends_of ["self", "tie"] (defScope s_Web_ends_of) := ⟨rfl, rfl, rfl, by decide +kernel, rfl, by decide +kernel, by decide +kernel⟩
theorem ok_Web_ends_of (F : Fun K "ends_of" "Web.ends_of" s_Web_ends_of f fd) (T : Txt K mg) (C_Web__need_tie : CalMX P w K mg base 1 "Web" "_need_tie" ["self", "tie"] sem_Web__need_tie)  : FnOk P w K mg base (L2.CX P w) 2 f fd ["self", "tie"] (dSpX K 2 sem_Web_ends_of) :=
  sem_Web_ends_of_eq ▸ fn_runX F sc_Web_ends_of fun cdv A outer s H EX hr tk =>
    (s_cons (s_drop (c_methX C_Web__need_tie tk (hr.mono (by omega)) (d_var (pv 0)) (a_cons (d_var (pv 1)) a_nil)))
    (s_one (s_ret (d_dget hr.units (d_fld (Classical.choice T.q_Web) (by simp) (d_var (pv 0))) (d_var (pv 1))))))
abbrev s__law_ends_right : Stmt := topS 37
abbrev N__law_ends_right : List Str := ["bag", "net", "places", "ties", "place", "due", "k", "tie"]
theorem sc__law_ends_right : FnScope N__law_ends_right ["bag", "net", "places", "ties"] (defScope s__law_ends_right) := ⟨rfl, rfl, rfl, by decide +kernel, rfl, by decide +kernel, by decide +kernel⟩
theorem ok__law_ends_right (F : Fun K "_law_ends_right" "_law_ends_right" s__law_ends_right f fd) (T : Txt K mg) (C__law_draw : Cal P w K mg base 2 "_law_draw" ["bag", "many"] sem__law_draw) (C__law_alike : Cal P w K mg base 6 "_law_alike" ["found", "due"] (sem__law_alike 5)) (C_Web_ties_at : CalMX P w K mg base 2 "Web" "ties_at" ["self", "place"] sem_Web_ties_at) (C_Web_ends_of : CalMX P w K mg base 2 "Web" "ends_of" ["self", "tie"] sem_Web_ends_of)  : FnOk P w K mg base CX0 7 f fd ["bag", "net", "places", "ties"] (dSp K 4 sem__law_ends_right) :=
  sem__law_ends_right_eq ▸ fn_run F sc__law_ends_right fun cdv A outer s H EX hr =>
    (s_cons (s_for PassesOwn.never rfl (i_lst (d_slice (d_var (pv 2)) o_none (o_some d_int))) (g_name (i := 4) sc__law_ends_right.nd rfl (by first | exact Or.inl rfl | exact Or.inr rfl)) (s_cons (s_setComp (i := 5) (own := [("tie", 7)]) (T := (nameT 7)) endL_ok rfl sc__law_ends_right.nd rfl rfl (sw_true rfl rfl rfl (by decide +kernel)) (i_lst (d_var (pv 3))) (blkOk_by (own := [("tie", 7)]) (N := N__law_ends_right) (sc := defScope s__law_ends_right) (by decide +kernel)) (fun _ _ _ _ _ => (pg_name (i := 7) sc__law_ends_right.nd rfl (by first | exact Or.inl rfl | exact Or.inr rfl))) (k_name (by decide)) (fun _ _ _ _ _ => (ts_one (t_cmp op_inD (q_in false) (d_var (pv 4)) (d_lst (a_cons (d_idx (d_var (pv 7)) d_int) (a_cons (d_idx (d_var (pv 7)) d_int) a_nil))) (by rfl)))) (fun _ _ _ _ _ => (d_idx (d_var (pv 7)) d_int)))
    (s_one (s_if (t_not (t_tru (c_call C__law_alike (hr.mono (by omega)) (a_cons (c_methX C_Web_ties_at takesN (hr.mono (by omega)) (d_var (pv 1)) (a_cons (d_var (pv 4)) a_nil)) (a_cons (d_var (pv 5)) a_nil))))) (s_one (s_ret d_bl)) s_nil))))
    (s_cons (s_for PassesOwn.never rfl (i_rng1 (by rfl) T.z_range (d_blt (call_min2 rfl) p_min2 (by rfl) T.z_min (by decide +kernel) (a_cons d_int (a_cons (d_blt (call_len_seq.or call_len_str) p_len (by rfl) T.z_len (by decide +kernel) (a_cons (d_var (pv 3)) a_nil)) a_nil)))) (g_name (i := 6) sc__law_ends_right.nd rfl (by first | exact Or.inl rfl | exact Or.inr rfl)) (s_cons (s_set (i := 7) sc__law_ends_right.nd rfl (by first | exact Or.inl rfl | exact Or.inr rfl) (d_idx (d_var (pv 3)) (c_call C__law_draw (hr.mono (by omega)) (a_cons (d_var (pv 0)) (a_cons (d_blt (call_len_seq.or call_len_str) p_len (by rfl) T.z_len (by decide +kernel) (a_cons (d_var (pv 3)) a_nil)) a_nil)))))
    (s_one (s_if (t_not (t_tru (c_call C__law_alike (hr.mono (by omega)) (a_cons (c_methX C_Web_ends_of takesN (hr.mono (by omega)) (d_var (pv 1)) (a_cons (d_idx (d_var (pv 7)) d_int) a_nil)) (a_cons (d_slice (d_var (pv 7)) (o_some d_int) o_none) a_nil))))) (s_one (s_ret d_bl)) s_nil))))
    (s_one (s_ret d_bl))))
abbrev s_law : Stmt := topS 42
abbrev N_law : List Str := ["script", "bag", "great", "many", "places", "ties", "due", "one", "two"]
theorem sc_law : FnScope N_law ["script"] (defScope s_law) := ⟨rfl, rfl, rfl, by decide +kernel, rfl, by decide +kernel, by decide +kernel⟩
theorem ok_law (F : Fun K "law" "law" s_law f fd) (T : Txt K mg) (C__law_bag : Cal P w K mg base 1 "_law_bag" ["script"] sem__law_bag) (C__law_draw : Cal P w K mg base 2 "_law_draw" ["bag", "many"] sem__law_draw) (C__law_web : Cal P w K mg base 4 "_law_web" ["bag", "places", "ties", "far"] sem__law_web) (C__law_web_written : Cal P w K mg base 1 "_law_web_written" ["places", "ties"] sem__law_web_written) (C_read_web : Cal P w K mg base 4 "read_web" ["text"] sem_read_web) (C__law_alike : Cal P w K mg base 6 "_law_alike" ["found", "due"] (sem__law_alike 5)) (C_Web_places : CalM P w K mg base 1 "Web" "places" ["self"] sem_Web_places) (C_Web_ties : CalM P w K mg base 1 "Web" "ties" ["self"] sem_Web_ties) (C_Web___len__ : CalM P w K mg base 1 "Web" "__len__" ["self"] sem_Web___len__) (C_web_text : Cal P w K mg base 2 "web_text" ["web"] sem_web_text) (C__law_as_a_web : Cal P w K mg base 8 "_law_as_a_web" ["bag", "net", "places", "ties"] sem__law_as_a_web) (C__law_more_right : Cal P w K mg base 7 "_law_more_right" ["bag", "net", "places", "ties"] sem__law_more_right) (C__law_no_mark : Cal P w K mg base 3 "_law_no_mark" ["net"] sem__law_no_mark) (C__law_ends_right : Cal P w K mg base 7 "_law_ends_right" ["bag", "net", "places", "ties"] sem__law_ends_right) (W_read_web_text_0 : KwB K C_read_web.fd ["text"] 0 ["text"] [0]) (W_web_text_web_0 : KwB K C_web_text.fd ["web"] 0 ["web"] [0]) : FnOk P w K mg base CX0 9 f fd ["script"] (dSp K 1 sem_law) :=
  sem_law_eq ▸ fn_run F sc_law fun cdv A outer s H EX hr =>
    (s_cons (s_set (i := 1) sc_law.nd rfl (by first | exact Or.inl rfl | exact Or.inr rfl) (c_call C__law_bag (hr.mono (by omega)) (a_cons (d_var (pv 0)) a_nil)))
    (s_cons (s_set (i := 2) sc_law.nd rfl (by first | exact Or.inl rfl | exact Or.inr rfl) (d_cmp (op_eqA hr.units) q_eq (c_call C__law_draw (hr.mono (by omega)) (a_cons (d_var (pv 1)) (a_cons d_int a_nil))) d_int (nomark _)))
    (s_cons (s_set (i := 3) sc_law.nd rfl (by first | exact Or.inl rfl | exact Or.inr rfl) (d_lst (a_cons (c_call C__law_draw (hr.mono (by omega)) (a_cons (d_var (pv 1)) (a_cons (d_idx (d_lst (a_cons d_int (a_cons d_int a_nil))) (d_bty (call_int1.or call_int_str) p_toIntT (by rfl) T.z_int (by decide +kernel) (a_cons (d_var (pv 2)) a_nil))) a_nil))) (a_cons (c_call C__law_draw (hr.mono (by omega)) (a_cons (d_var (pv 1)) (a_cons (d_idx (d_lst (a_cons d_int (a_cons d_int a_nil))) (d_bty (call_int1.or call_int_str) p_toIntT (by rfl) T.z_int (by decide +kernel) (a_cons (d_var (pv 2)) a_nil))) a_nil))) a_nil))))
    (s_cons (s_asg (c_call C__law_web (hr.mono (by omega)) (a_cons (d_var (pv 1)) (a_cons (d_idx (d_var (pv 3)) d_int) (a_cons (d_idx (d_var (pv 3)) d_int) (a_cons (c_call C__law_draw (hr.mono (by omega)) (a_cons (d_var (pv 1)) (a_cons d_int a_nil))) a_nil))))) (g_tup rfl (g_cons (g_name (i := 4) sc_law.nd rfl (by first | exact Or.inl rfl | exact Or.inr rfl)) (g_cons (g_name (i := 5) sc_law.nd rfl (by first | exact Or.inl rfl | exact Or.inr rfl)) g_nil))))
    (s_cons (s_set (i := 6) sc_law.nd rfl (by first | exact Or.inl rfl | exact Or.inr rfl) (c_call C__law_web_written (hr.mono (by omega)) (a_cons (d_var (pv 4)) (a_cons (d_var (pv 5)) a_nil))))
    (s_cons (s_set (i := 7) sc_law.nd rfl (by first | exact Or.inl rfl | exact Or.inr rfl) (c_call C_read_web (hr.mono (by omega)) (a_cons (d_var (pv 6)) a_nil)))
    (s_cons (s_set (i := 8) sc_law.nd rfl (by first | exact Or.inl rfl | exact Or.inr rfl) (c_callK0 C_read_web (hr.mono (by omega)) W_read_web_text_0 (kw_cons (d_var (pv 6)) kw_nil)))
    (s_cons (s_if (t_w (w_or (t_not (t_tru (c_call C__law_alike (hr.mono (by omega)) (a_cons (c_meth0 C_Web_places (hr.mono (by omega)) (d_var (pv 7))) (a_cons (d_var (pv 4)) a_nil))))) (w_or (t_not (t_tru (c_call C__law_alike (hr.mono (by omega)) (a_cons (c_meth0 C_Web_ties (hr.mono (by omega)) (d_var (pv 7))) (a_cons (d_var (pv 5)) a_nil))))) (w_or1 (t_cmp (op_neA hr.units) q_ne (d_lenO C_Web___len__ (hr.mono (by omega)) (d_var (pv 7)) (by rfl) T.z_len) (d_blt (call_len_seq.or call_len_str) p_len (by rfl) T.z_len (by decide +kernel) (a_cons (d_var (pv 5)) a_nil)) (nomark _)))))) (s_one (s_ret d_bl)) s_nil)
    (s_cons (s_if (t_w (w_or (t_cmp (op_neA hr.units) q_ne (c_call C_web_text (hr.mono (by omega)) (a_cons (d_var (pv 7)) a_nil)) (d_var (pv 6)) (nomark _)) (w_or (t_not (t_tru (c_call C__law_no_mark (hr.mono (by omega)) (a_cons (d_var (pv 7)) a_nil)))) (w_or1 (t_not (t_tru (c_call C__law_ends_right (hr.mono (by omega)) (a_cons (d_var (pv 1)) (a_cons (d_var (pv 7)) (a_cons (d_var (pv 4)) (a_cons (d_var (pv 5)) a_nil))))))))))) (s_one (s_ret d_bl)) s_nil)
    (s_cons (s_if (t_not (t_tru (c_call C__law_more_right (hr.mono (by omega)) (a_cons (d_var (pv 1)) (a_cons (d_var (pv 7)) (a_cons (d_var (pv 4)) (a_cons (d_var (pv 5)) a_nil))))))) (s_one (s_ret d_bl)) s_nil)
    (s_cons (s_if (t_w (w_or (t_not (t_tru (c_call C__law_alike (hr.mono (by omega)) (a_cons (c_meth0 C_Web_places (hr.mono (by omega)) (d_var (pv 8))) (a_cons (d_var (pv 4)) a_nil))))) (w_or (t_not (t_tru (c_call C__law_alike (hr.mono (by omega)) (a_cons (c_meth0 C_Web_ties (hr.mono (by omega)) (d_var (pv 8))) (a_cons (d_var (pv 5)) a_nil))))) (w_or1 (t_cmp (op_neA hr.units) q_ne (c_callK0 C_web_text (hr.mono (by omega)) W_web_text_web_0 (kw_cons (d_var (pv 8)) kw_nil)) (d_var (pv 6)) (nomark _)))))) (s_one (s_ret d_bl)) s_nil)
    (s_one (s_ret (c_call C__law_as_a_web (hr.mono (by omega)) (a_cons (d_var (pv 1)) (a_cons (d_var (pv 8)) (a_cons (d_var (pv 4)) (a_cons (d_var (pv 5)) a_nil))))))))))))))))))
end
end LW

set_option maxHeartbeats 2000000
namespace LW
open PySem PySem.Spec L2 DL
open PyProof.Rows hiding St

def Bag (b : Nat) (ms : MS) : Prop := ∃ (cs : List Int) (k c st q : Int), ms[b]? = some (.lst [.lst (cs.map .int), .int k, .int c, .int st, .int q]) ∧ 0 ≤ k ∧ 0 ≤ st ∧ st < 2147483647
structure Bg (b : Nat) (ms ms' : MS) : Prop where
  bag : Bag b ms'
  len : ms'.length = ms.length
  rest : ∀ n, n ≠ b → ms'[n]? = ms[n]?
theorem Bg.refl {b : Nat} {ms : MS} (h : Bag b ms) : Bg b ms ms := ⟨h, rfl, fun _ _ => rfl⟩
theorem Bg.trans {b : Nat} {m1 m2 m3 : MS} (h : Bg b m1 m2) (h' : Bg b m2 m3) : Bg b m1 m3 := ⟨h'.bag, h'.len.trans h.len, fun n hn => (h'.rest n hn).trans (h.rest n hn)⟩
theorem bag_lt {b : Nat} {ms : MS} {c : Cell} (h : ms[b]? = some c) : b < ms.length := (List.getElem?_eq_some_iff.mp h).1
theorem Bg.put {b : Nat} {m1 m2 : MS} (h : Bg b m1 m2) {c : Cell} (hc : Bag b (m2.set b c)) : Bg b m1 (m2.set b c) := ⟨hc, by rw [List.length_set]; exact h.len, fun n hn => by rw [List.getElem?_set_ne (Ne.symm hn)]; exact h.rest n hn⟩

theorem bag_cell {b : Nat} {ms : MS} (h : Bag b ms) : ∃ (cs : List Int) (k c st q : Int), ms[b]? = some (.lst [.lst (cs.map .int), .int k, .int c, .int st, .int q]) ∧ 0 ≤ k ∧ 0 ≤ st ∧ st < 2147483647 := h
theorem intBits_nn (i : Int) : (0 : Int) ≤ ((Builtin.Int.intBits i : Nat) : Int) := Int.natCast_nonneg _
theorem intBits_lt {i : Int} (h : i.natAbs < 2 ^ 200) : Builtin.Int.intBits i ≤ 200 := intBits_le h
theorem big8 {i : Int} (h : i.natAbs < 2 ^ 200) : i.natAbs < BIG8 := Nat.lt_of_lt_of_le h (by unfold BIG8; exact Nat.pow_le_pow_right (by decide) (by decide))
theorem stirred_ok {b : Nat} {ms : MS} {many : Int} (hb : Bag b ms) (hm : 0 < many) (hm2 : many < 1606938044258990275541962092341162602522202993782792835301376) : OK (sem__law_stirred [.ptr b, .int many] ms) fun d ms' => ∃ r, d = .int r ∧ 0 ≤ r ∧ r < many ∧ Bg b ms ms' := by
  have hbits := intBits_lt (i := many) (by omega)
  have c1 : (-4611686018427387904 : Int) ≤ 1 + ((Builtin.Int.intBits many : Nat) : Int) / 27 := by omega
  have c2 : 1 + ((Builtin.Int.intBits many : Nat) : Int) / 27 < 4611686018427387904 := by omega
  simp -implicitDefEqProofs [sem__law_stirred_eq, B__law_stirred, c1, c2]
  generalize hn : (1 + ((Builtin.Int.intBits many : Nat) : Int) / 27).toNat = n
  rw [bind_assoc]
  refine OK.bind (for_inv ((List.range n).map fun (k : Nat) => D.int (0 + (k : Int))) (fun _ env m => ∃ found e3, env = [some (.ptr b), some (.int many), some (.int found), e3] ∧ Bg b ms m) (fun _ _ => False) (fun _ _ => False)
    (fun i env m _ _ => rngNx_eq 0 n i) (fun i x env m hx hI => ?_) (n + 1) 0 _ ms (by simp) (by simp) ⟨0, none, rfl, .refl hb⟩) fun a m h => ?_
  · obtain ⟨found, e3, rfl, hB⟩ := hI
    obtain ⟨cs, k, c, st, q, h, h0, h1, h2⟩ := hB.bag
    have hl := bag_lt h
    have hs : st.natAbs < 1152921504606846976 := by omega
    have hset : ∀ c : Cell, (m.set b c)[b]? = some c := fun c => List.getElem?_set_self hl
    simp -implicitDefEqProofs [h, atI, ixN, hs, hset]
    exact hB.put ⟨cs, k, c, _, _, hset _, h0, by omega, by omega⟩
  · obtain ⟨fl, env⟩ := a
    cases fl with
    | nx =>
      rcases h with ⟨found, e3, rfl, hB⟩ | h
      · simp -implicitDefEqProofs [hm]
        exact ⟨Int.emod_nonneg _ (by omega), Int.emod_lt_of_pos _ hm, hB⟩
      · exact h.elim
    | brk => exact h.elim
    | cont => exact h.elim
    | ret d => exact h.elim
theorem draw_ok {b : Nat} {ms : MS} {many : Int} (hb : Bag b ms) (hm : 0 < many) (hm2 : many < 1606938044258990275541962092341162602522202993782792835301376) : OK (sem__law_draw [.ptr b, .int many] ms) fun d ms' => ∃ r, d = .int r ∧ 0 ≤ r ∧ r < many ∧ Bg b ms ms' := by
  obtain ⟨cs, k, c, st, q, h, h0, h1, h2⟩ := id hb
  have hl := bag_lt h
  have hset : ∀ c : Cell, (ms.set b c)[b]? = some c := fun c => List.getElem?_set_self hl
  have hmn : many.natAbs < BIG8 := big8 (by omega)
  have nn : ∀ z : Int, 0 ≤ z % many := fun z => Int.emod_nonneg _ (by omega)
  have lt : ∀ z : Int, z % many < many := fun z => Int.emod_lt_of_pos _ hm
  by_cases hc : c = 0
  · subst hc
    by_cases hk : k < cs.length
    · obtain ⟨j, rfl⟩ := Int.eq_ofNat_of_zero_le h0
      have hj : j < cs.length := by omega
      have e : sem__law_draw [.ptr b, .int many] ms = .ok (.int (cs[j] % many)) (ms.set b (.lst [.lst (cs.map .int), .int ((j : Int) + 1), .int (cs[j] / many), .int st, .int q])) := by
        simp -implicitDefEqProofs [sem__law_draw_eq, B__law_draw, h, atI, ixN, hset, hj, hm, hmn]
      exact ⟨_, _, e, _, rfl, nn _, lt _, (Bg.refl hb).put ⟨cs, _, _, st, q, hset _, by omega, h1, h2⟩⟩
    · have hk' : ¬ k < ((cs.length : Nat) : Int) := by omega
      obtain ⟨d, m, e, r, rfl, g1, g2, g3⟩ := stirred_ok hb hm hm2
      have e : sem__law_draw [.ptr b, .int many] ms = .ok (.int r) m := by
        simp -implicitDefEqProofs [sem__law_draw_eq, B__law_draw, h, atI, ixN, hk', e]
      exact ⟨_, _, e, _, rfl, g1, g2, g3⟩
  · have e : sem__law_draw [.ptr b, .int many] ms = .ok (.int (c % many)) (ms.set b (.lst [.lst (cs.map .int), .int k, .int (c / many), .int st, .int q])) := by
      simp -implicitDefEqProofs [sem__law_draw_eq, B__law_draw, h, atI, ixN, hset, hc, hm, hmn]
    exact ⟨_, _, e, _, rfl, nn _, lt _, (Bg.refl hb).put ⟨cs, k, _, st, q, hset _, h0, h1, h2⟩⟩
end LW

set_option maxHeartbeats 2000000
namespace LW
open PySem PySem.Spec L2 DL
open PyProof.Rows hiding St

/-! ### texts by their signs -/
abbrev ch (x : Str) : List Nat := x.cps.toList
theorem ch_len (x : Str) : x.length = (ch x).length := by simp [Str.length]
theorem ch_app (x y : Str) : ch (x ++ y) = ch x ++ ch y := by
  show (x.cps ++ y.cps).toList = _
  simp
theorem ch_ext {x y : Str} (h : ch x = ch y) : x = y := by
  cases x; cases y
  simp only [ch, Array.toList_inj] at h
  rw [h]
theorem ch_mk (l : List Nat) : ch ⟨l.toArray⟩ = l := rfl
theorem ch_cut (x : Str) (lo hi : Option Int) : ch (cutS x lo hi) = ((ch x).drop (HT.sIx x.length 0 lo)).take (HT.sIx x.length x.length hi - HT.sIx x.length 0 lo) := rfl
theorem ch_rev (x : Str) : ch (revS x) = (ch x).reverse := rfl
def Low (x : Str) : Prop := ∀ c ∈ ch x, 97 ≤ c ∧ c ≤ 122
structure Nm (x : Str) : Prop where
  low : Low x
  pos : 1 ≤ x.length
  le : x.length ≤ 8
instance (x : Str) : Decidable (Low x) := by unfold Low; infer_instance
theorem Nm.of {x : Str} (h : (decide (Low x) && decide (1 ≤ x.length) && decide (x.length ≤ 8)) = true) : Nm x := by
  simp only [Bool.and_eq_true, decide_eq_true_eq] at h
  exact ⟨h.1.1, h.1.2, h.2⟩
theorem low_sub {x y : Str} (h : Low x) (hs : ∀ c, c ∈ ch y → c ∈ ch x) : Low y := fun c hc => h c (hs c hc)
theorem low_cut {x : Str} (h : Low x) (lo hi : Option Int) : Low (cutS x lo hi) := low_sub h fun c hc => by
  rw [ch_cut] at hc
  exact List.mem_of_mem_drop (List.mem_of_mem_take hc)
theorem low_app {x y : Str} (h : Low x) (h' : Low y) : Low (x ++ y) := fun c hc => by
  rw [ch_app] at hc
  exact (List.mem_append.mp hc).elim (h c) (h' c)
theorem low_rev {x : Str} (h : Low x) : Low (revS x) := low_sub h fun c hc => by
  rw [ch_rev] at hc
  exact List.mem_reverse.mp hc
theorem join_len (ys : List Str) : ch (Txt.join "" ys) = (ys.map ch).flatten := by
  have g : Txt.join "" ys = Str.join "" ys := StrLaws.glued_eq_join "" ys
  rw [g]
  clear g
  induction ys with
  | nil => rfl
  | cons y ys ih =>
    cases ys with
    | nil => simp [Str.join]
    | cons z zs =>
      have : Str.join "" (y :: z :: zs) = y ++ "" ++ Str.join "" (z :: zs) := rfl
      rw [this, ch_app, ch_app, ih]
      have e : ch ("" : Str) = [] := by decide +kernel
      rw [e]
      simp

theorem name_ok {b : Nat} {ms : MS} (hb : Bag b ms) : OK (sem__law_name [.ptr b] ms) fun d ms' => ∃ x, d = .str x ∧ Nm x ∧ Bg b ms ms' := by
  obtain ⟨_, m1, e1, w, rfl, w0, w1, B1⟩ := draw_ok hb (many := 4) (by decide) (by decide)
  by_cases h0 : w = 0
  · subst h0
    obtain ⟨_, m2, e2, r, rfl, r0, r1, B2⟩ := draw_ok B1.bag (many := 3) (by decide) (by decide)
    have hl : ch ("abz" : Str) = [97, 98, 122] := by decide +kernel
    obtain ⟨c, hc, hm⟩ := atI_in (xs := ch ("abz" : Str)) (i := r) r0 (by rw [hl]; exact r1)
    have hz : ("abz" : Str).length ≤ 16777216 := by decide +kernel
    have e : sem__law_name [.ptr b] ms = .ok (.str ⟨#[c]⟩) m2 := by
      simp -implicitDefEqProofs [sem__law_name_eq, B__law_name, e1, e2, hc, hz]
    refine ⟨_, _, e, _, rfl, ⟨fun z hz => ?_, Nat.le_refl 1, (by show 1 ≤ 8; decide)⟩, B1.trans B2⟩
    have : z = c := by simpa [ch] using hz
    subst this
    rw [hl] at hm
    simp at hm
    omega
  by_cases h1 : w = 1
  · subst h1
    obtain ⟨_, m2, e2, r, rfl, r0, r1, B2⟩ := draw_ok B1.bag (many := 9) (by decide) (by decide)
    obtain ⟨d, hd, hm⟩ := atI_in (xs := [D.str "from", D.str "any", D.str "name", D.str "back", D.str "none", D.str "then", D.str "or", D.str "way", D.str "on"]) (i := r) r0 (by exact r1)
    have e : sem__law_name [.ptr b] ms = .ok d m2 := by
      simp -implicitDefEqProofs [sem__law_name_eq, B__law_name, e1, e2, hd]
    have : ∃ x, d = .str x ∧ Nm x := by
      simp only [List.mem_cons, List.not_mem_nil, or_false] at hm
      rcases hm with rfl | rfl | rfl | rfl | rfl | rfl | rfl | rfl | rfl <;> exact ⟨_, rfl, Nm.of (by decide +kernel)⟩
    obtain ⟨x, rfl, hx⟩ := this
    exact ⟨_, _, e, _, rfl, hx, B1.trans B2⟩
  by_cases h2 : w = 2
  · subst h2
    obtain ⟨_, m2, e2, r, rfl, r0, r1, B2⟩ := draw_ok B1.bag (many := 8) (by decide) (by decide)
    have hz : ("aaaaaaab" : Str).length ≤ 16777216 := by decide +kernel
    have hl : ("aaaaaaab" : Str).length = 8 := by decide +kernel
    have e : sem__law_name [.ptr b] ms = .ok (.str (cutS "aaaaaaab" (some r) none)) m2 := by
      simp -implicitDefEqProofs [sem__law_name_eq, B__law_name, e1, e2, hz]
    have hlen : (cutS "aaaaaaab" (some r) none).length = 8 - r.toNat := by
      obtain ⟨k, rfl⟩ := Int.eq_ofNat_of_zero_le r0
      rw [ch_len, ch_cut, List.length_take, List.length_drop, ← ch_len, hl, HT.sIx_nat, HT.sIx_none]
      simp only [Int.toNat_natCast]
      omega
    exact ⟨_, _, e, _, rfl, ⟨low_cut (by decide +kernel) _ _, by omega, by omega⟩, B1.trans B2⟩
  obtain ⟨_, m2, e2, r, rfl, r0, r1, B2⟩ := draw_ok B1.bag (many := 8) (by decide) (by decide)
  have ha : ch ("abcdefghijklmnopqrstuvwxyz" : Str) = [97, 98, 99, 100, 101, 102, 103, 104, 105, 106, 107, 108, 109, 110, 111, 112, 113, 114, 115, 116, 117, 118, 119, 120, 121, 122] := by decide +kernel
  have hz : ("abcdefghijklmnopqrstuvwxyz" : Str).length ≤ 16777216 := by decide +kernel
  have hp : (-4611686018427387904 : Int) ≤ 1 + r ∧ 1 + r < 4611686018427387904 := by omega
  obtain ⟨acc, m3, e3, xs, rfl, hxl, hxs, B3⟩ := comp_inv (nx := fun i _ => rngNx 0 (1 + r).toNat i) (step := stepOf (nameT 2) yesT (binE (cE (.str "abcdefghijklmnopqrstuvwxyz")) (appE (consA (varE 0) (consA (cE (.int 26)) nilA)) (callP 2 sem__law_draw)) idxD) [some (.ptr b), some (.int w), none])
    ((List.range (1 + r).toNat).map fun (k : Nat) => D.int (0 + (k : Int))) (fun i acc m => ∃ xs : List Str, acc = xs.map .str ∧ xs.length = i ∧ (∀ x ∈ xs, Low x ∧ x.length = 1) ∧ Bg b ms m) (fun i acc m _ _ => rngNx_eq 0 (1 + r).toNat i)
    (fun i acc m _ hI => by obtain ⟨xs, rfl, h, _⟩ := hI; simp [h]) (by simp; omega) (fun i x acc m hx hI => by
      obtain ⟨xs, rfl, hl, hxs, B⟩ := hI
      obtain ⟨_, m4, e4, q, rfl, q0, q1, B4⟩ := draw_ok B.bag (many := 26) (by decide) (by decide)
      obtain ⟨c, hc, hm⟩ := atI_in (xs := ch ("abcdefghijklmnopqrstuvwxyz" : Str)) (i := q) q0 (by rw [ha]; exact q1)
      have e : stepOf (nameT 2) yesT (binE (cE (.str "abcdefghijklmnopqrstuvwxyz")) (appE (consA (varE 0) (consA (cE (.int 26)) nilA)) (callP 2 sem__law_draw)) idxD) [some (.ptr b), some (.int w), none] x m = .ok (some (.str ⟨#[c]⟩)) m4 := by
        simp -implicitDefEqProofs [e4, hc, hz]
      refine ⟨_, _, e, xs ++ [⟨#[c]⟩], by simp, by simp [hl], fun y hy => ?_, B.trans B4⟩
      rcases List.mem_append.mp hy with h | h
      · exact hxs y h
      · obtain rfl : y = ⟨#[c]⟩ := by simpa using h
        refine ⟨fun z hz => ?_, rfl⟩
        obtain rfl : z = c := by simpa [ch] using hz
        rw [ha] at hm
        simp at hm
        omega) ((1 + r).toNat + 1) 0 [] m2 (by simp) (by simp) ⟨[], rfl, rfl, (fun _ h => by cases h), B1.trans B2⟩
  have hjl : (xs.map (·.length)).sum = xs.length := by
    clear e3 hxl
    induction xs with
    | nil => rfl
    | cons x xs ih =>
      rw [List.map_cons, List.sum_cons, (hxs x (by simp)).2, ih fun y hy => hxs y (by simp [hy]), List.length_cons]
      omega
  have hlen : xs.length = (1 + r).toNat := by rw [hxl]; simp
  have hE : ("" : Str).length = 0 := by decide +kernel
  have hJ : (Txt.join "" xs).length = (1 + r).toNat := by
    rw [ch_len, join_len, List.length_flatten, List.map_map, ← hlen, ← hjl]
    exact congrArg List.sum (List.map_congr_left fun y _ => (ch_len y).symm)
  have hj2 : (xs.map (·.length)).sum + xs.length * ("" : Str).length ≤ 16777216 := by rw [hjl, hE, hlen]; omega
  have e : sem__law_name [.ptr b] ms = .ok (.str (Txt.join "" xs)) m3 := by
    simp -implicitDefEqProofs [sem__law_name_eq, B__law_name, e1, h0, h1, h2, e2, hp.1, hp.2, e3, hj2]
  refine ⟨_, _, e, _, rfl, ⟨fun c hc => ?_, ?_, ?_⟩, B3⟩
  · rw [join_len] at hc
    obtain ⟨l, hl, hcl⟩ := List.mem_flatten.mp hc
    obtain ⟨x, hx, rfl⟩ := List.mem_map.mp hl
    exact (hxs x hx).1 c hcl
  · rw [hJ]; omega
  · rw [hJ]; omega
def Sg (x : Str) : Prop := ∀ c ∈ ch x, c < 1114112
instance (x : Str) : Decidable (Sg x) := by unfold Sg; infer_instance
theorem Nm.sg {x : Str} (h : Nm x) : Sg x := fun c hc => by have := h.low c hc; omega
theorem sg_cut {x : Str} (h : Sg x) (lo hi : Option Int) : Sg (cutS x lo hi) := fun c hc => by
  rw [ch_cut] at hc
  exact h c (List.mem_of_mem_drop (List.mem_of_mem_take hc))
theorem sg_app {x y : Str} (h : Sg x) (h' : Sg y) : Sg (x ++ y) := fun c hc => by
  rw [ch_app] at hc
  exact (List.mem_append.mp hc).elim (h c) (h' c)
theorem cut_le (x : Str) (lo hi : Option Int) : (cutS x lo hi).length ≤ x.length := by
  rw [ch_len, ch_cut, List.length_take, List.length_drop, ← ch_len]
  omega
theorem app_len (x y : Str) : (x ++ y).length = x.length + y.length := by rw [ch_len, ch_app, List.length_append, ← ch_len, ← ch_len]
theorem join_le (xs : List Str) (n : Nat) (h : ∀ x ∈ xs, x.length ≤ n) : (Txt.join "" xs).length ≤ n * xs.length := by
  rw [ch_len, join_len]
  induction xs with
  | nil => simp
  | cons x xs ih =>
    have h1 := h x (by simp)
    have h2 := ih fun y hy => h y (by simp [hy])
    rw [List.map_cons, List.flatten_cons, List.length_append, ← ch_len, List.length_cons, Nat.mul_add, Nat.mul_one]
    omega
end LW

set_option maxHeartbeats 4000000
namespace LW
open PySem PySem.Spec L2 DL
open PyProof.Rows hiding St

theorem cut63 {ns : List Int} (hl : ns.length ≤ 63) : DL.cutD (ns.map D.int) none (some 63) = ns.map D.int := by
  have h : (ns.map D.int).length = ns.length := List.length_map _
  unfold DL.cutD
  rw [h, HT.sIx_none, show (63 : Int) = ((63 : Nat) : Int) from rfl, HT.sIx_nat]
  have : min 63 ns.length - 0 = ns.length := by omega
  rw [List.drop_zero, this, List.take_of_length_le (by omega)]
theorem bag_ok {ns : List Int} {ms : MS} (hl : ns.length ≤ 63) : OK (sem__law_bag [.ro (ns.map D.int)] ms) fun d ms' => d = .ptr ms.length ∧ (∃ c, ms' = ms ++ [c]) ∧ Bag ms.length ms' := by
  have hz : ns.length ≤ 16777216 := by omega
  have hbig : (1000000000000000000000000000000000000000000000000000000000000 : Nat) < BIG6 := by unfold BIG6; decide +kernel
  -- the stirring
  obtain ⟨a1, m1, e1, h1⟩ := for_inv (nx := fun i _ => nxOf (some (ns.map D.int)) i) (turn := turnOf (nameT 2) (setS 1 (binE (binE (binE (binE (varE 1) (cE (.int 48271)) mulD) (binE (varE 2) (cE (.int 2147483629)) modD) addD) (cE (.int 1)) addD) (cE (.int 2147483647)) modD)))
    (ns.map D.int) (fun _ env m => ∃ st e, env = [some (.ro (ns.map D.int)), some (.int st), e] ∧ 0 ≤ st ∧ st < 2147483647 ∧ m = ms) (fun _ _ => False) (fun _ _ => False) (fun _ _ _ _ _ => rfl) (fun i x env m hx hI => by
      obtain ⟨st, e, rfl, s0, s1, rfl⟩ := hI
      obtain ⟨y, _, rfl⟩ := List.mem_map.mp (List.mem_of_getElem? hx)
      simp -implicitDefEqProofs
      omega) (ns.length + 1) 0 [some (.ro (ns.map D.int)), some (.int 19), none] ms (by simp) (by simp) ⟨19, none, rfl, by decide, by decide, rfl⟩
  obtain ⟨fl, env⟩ := a1
  cases fl with
  | brk => exact h1.elim
  | cont => exact h1.elim
  | ret d => exact h1.elim
  | nx =>
    rcases h1 with ⟨st, e, rfl, s0, s1, rfl⟩ | h1
    · have e2 : compLoop (fun i _ => nxOf (some (ns.map D.int)) i) (stepOf (nameT 2) yesT (binE (appE (consA (varE 2) nilA) absP) (binE (binE (cE (.int 10)) (cE (.int 60)) powD) (cE (.int 10)) powD) modD) [some (.ro (ns.map D.int)), some (.int st), none]) (ns.length + 1) 0 [] m1 = .ok ((ns.map D.int).map fun d => match d with | .int y => .int ((if y < 0 then -y else y) % ((10 : Int) ^ 60) ^ 10) | d => d) m1 := by
        refine comp_map _ (fun i => rfl) (by simpa using hz) (fun y hy => ?_) (by simp)
        obtain ⟨c, _, rfl⟩ := List.mem_map.mp hy
        simp -implicitDefEqProofs [hbig]
      have e3 : ((ns.map D.int).map fun d => match d with | .int y => D.int ((if y < 0 then -y else y) % ((10 : Int) ^ 60) ^ 10) | d => d) = (ns.map fun y => (if y < 0 then -y else y) % ((10 : Int) ^ 60) ^ 10).map D.int := by
        rw [List.map_map, List.map_map]
        exact List.map_congr_left fun c _ => rfl
      rw [e3] at e2
      generalize (ns.map fun y => (if y < 0 then -y else y) % ((10 : Int) ^ 60) ^ 10) = cs at e2
      have e4 : sem__law_bag [.ro (ns.map D.int)] m1 = .ok (.ptr m1.length) (m1 ++ [.lst [.lst (cs.map D.int), .int 0, .int 0, .int st, .int 0]]) := by
        simp -implicitDefEqProofs [sem__law_bag_eq, B__law_bag, cut63 hl, hz, e1, e2]
      refine ⟨_, _, e4, rfl, ⟨_, rfl⟩, cs, 0, 0, st, 0, ?_, by decide, s0, s1⟩
      rw [List.getElem?_append_right (Nat.le_refl _)]
      simp
    · exact h1.elim
end LW

set_option maxHeartbeats 4000000
namespace LW
open PySem PySem.Spec L2 DL
open PyProof.Rows hiding St

def abc : Str := "abcdefghijklmnopqrstuvwxyz"
theorem ch_abc : ch abc = [97, 98, 99, 100, 101, 102, 103, 104, 105, 106, 107, 108, 109, 110, 111, 112, 113, 114, 115, 116, 117, 118, 119, 120, 121, 122] := by decide +kernel
def isN (x : Str) : Bool := decide ((1 : Int) ≤ x.length) && decide ((x.length : Int) ≤ 8) && (ch x).all fun c => decide (c ∈ ch abc)
theorem is_name_ok {x : Str} {ms : MS} (h : x.length ≤ 1000000) : sem_is_name [.str x] ms = .ok (.bl (isN x)) ms := by
  have h' : x.length ≤ 16777216 := by omega
  have e : compLoop (fun i _ => nxOf (some (x.cps.toList.map fun c => D.str ⟨#[c]⟩)) i) (stepOf (nameT 1) yesT (binE (varE 1) (cE c_SMALL_LETTERS) (inD false)) [some (.str x), none]) (x.cps.size + 1) 0 [] ms = .ok ((x.cps.toList.map fun c => D.str ⟨#[c]⟩).map fun d => match d with | .str y => .bl (decide (y.cps.getD 0 0 ∈ ch abc)) | d => d) ms := by
    refine comp_map (fun d => match d with | .str y => .bl (decide (y.cps.getD 0 0 ∈ ch abc)) | d => d) (fun i => rfl) (by simpa [Str.length] using h') (fun y hy => ?_) (by simp)
    obtain ⟨c, _, rfl⟩ := List.mem_map.mp hy
    simp -implicitDefEqProofs [c_SMALL_LETTERS]
    rfl
  have e2 : ((x.cps.toList.map fun c => D.str ⟨#[c]⟩).map fun d => match d with | .str y => D.bl (decide (y.cps.getD 0 0 ∈ ch abc)) | d => d) = ((ch x).map fun c => decide (c ∈ ch abc)).map D.bl := by
    rw [List.map_map, List.map_map]
    exact List.map_congr_left fun c _ => rfl
  rw [e2] at e
  by_cases h1 : (1 : Int) ≤ x.length
  · by_cases h2 : (x.length : Int) ≤ 8
    · simp -implicitDefEqProofs [sem_is_name_eq, B_is_name, h', h1, h2, c_LONGEST_NAME, e]
      simp [isN, h1, h2, List.all_map]
    · simp -implicitDefEqProofs [sem_is_name_eq, B_is_name, h', h1, h2, c_LONGEST_NAME]
      simp [isN, h1, h2]
  · simp -implicitDefEqProofs [sem_is_name_eq, B_is_name, h', h1, c_LONGEST_NAME]
    simp [isN, h1]
theorem isN_nm {x : Str} (h : Nm x) : isN x = true := by
  have h1 := h.pos
  have h2 := h.le
  simp only [isN, Bool.and_eq_true, decide_eq_true_eq, List.all_eq_true]
  refine ⟨⟨by omega, by omega⟩, fun c hc => ?_⟩
  have := h.low c hc
  rw [ch_abc]
  simp
  omega

theorem sg_ok {x : Str} (h : Sg x) (k : Nat) : okD k (.str x) = true := by
  have : PyData.strOk x = true := by
    unfold PyData.strOk
    rw [Array.all_eq_true']
    intro c hc
    exact decide_eq_true (h c (by simpa [ch] using hc))
  cases k <;> exact this
theorem ok_strs {ys : List Str} (h : ∀ y ∈ ys, Sg y) : okDs 0 (ys.map D.str) = true := by
  rw [okDs_iff]
  intro d hd
  obtain ⟨y, hy, rfl⟩ := List.mem_map.mp hd
  exact sg_ok (h y hy) 0
end LW

set_option maxHeartbeats 4000000
namespace LW
open PySem PySem.Spec L2 DL
open PyProof.Rows hiding St

section
variable {ms : MS} {w a b c : Nat} {W : Web}
theorem lt_of {n : Nat} {x : Cell} (h : ms[n]? = some x) : n < ms.length := (List.getElem?_eq_some_iff.mp h).1
/-- it stands where all its cells do -/
theorem WebAt.keep {ms' : MS} (h : WebAt ms w a b c W) (hk : ∀ n, n = w ∨ n = a ∨ n = b ∨ n = c → ms'[n]? = ms[n]?) : WebAt ms' w a b c W :=
  ⟨by rw [hk w (.inl rfl)]; exact h.o, by rw [hk a (.inr (.inl rfl))]; exact h.p, by rw [hk b (.inr (.inr (.inl rfl)))]; exact h.t, by rw [hk c (.inr (.inr (.inr rfl)))]; exact h.m, h.wa, h.wb, h.wc, h.ab, h.ac, h.bc⟩
theorem WebAt.push (h : WebAt ms w a b c W) (l : MS) : WebAt (ms ++ l) w a b c W := h.keep fun n hn => by
  rw [List.getElem?_append_left]
  rcases hn with rfl | rfl | rfl | rfl
  · exact lt_of h.o
  · exact lt_of h.p
  · exact lt_of h.t
  · exact lt_of h.m
theorem places_ok (h : WebAt ms w a b c W) (k : StOk W.stand) : sem_Web_places [.ptr w] ms = .ok (.ptr ms.length) (ms ++ [.lst (W.ps.map D.int)]) := by
  have e := rise_same k.pr
  have e' : rise W.ps = W.ps := e
  have f : W.ps.length ≤ 1000 := k.few.1
  have f2 : W.ps.length ≤ 16777216 := by omega
  simp -implicitDefEqProofs [sem_Web_places_eq, B_Web_places, h.o, h.p, keys_pl, e', f, f2]
theorem ties_ok (h : WebAt ms w a b c W) (k : StOk W.stand) : sem_Web_ties [.ptr w] ms = .ok (.ptr ms.length) (ms ++ [.lst (W.ts.map tieD)]) := by
  have e := rise_same k.tr
  have e' : rise (W.ts.map (·.1)) = W.ts.map (·.1) := e
  have f : W.ts.length ≤ 1000 := k.few.2
  have f2 : (W.ts.map (·.1)).length ≤ 1000 := by simpa using f
  have f3 : W.ts.length ≤ 16777216 := by omega
  have e1 : compLoop (fun i _ => nxOf (some ((W.ts.map (·.1)).map D.int)) i) (stepOf (nameT 1) yesT (appE (consA (varE 1) (starA (dgetE (fldE "Web" "_ties" (varE 0)) (varE 1)) nilA)) mkTup) [some (.ptr w), none]) (((W.ts.map (·.1)).map D.int).length + 1) 0 [] ms = .ok (W.ts.map tieD) ms := by
    refine comp_zip W.ts (fun t => D.int t.1) tieD (fun i => by rw [List.map_map]; rfl) (by show _ ≤ 16777216; omega) (fun t ht => ?_) (by simp)
    have v : valD (tiK W.ts) (.inl t.1) = some (endD t) := val_ti k.tr ht
    simp -implicitDefEqProofs [h.o, h.t, v, endD, tieD]
  simp -implicitDefEqProofs only [List.map_map, List.length_map] at e1
  simp -implicitDefEqProofs [sem_Web_ties_eq, B_Web_ties, h.o, h.t, keys_ti, e', f, f3, e1]
theorem runT_frz {N : Nat} {B : SF} {args : List D} {l : MS} {d d' : D} (h : runF N B args ms = .ok d (ms ++ l)) (hd : frz ms.length (ms ++ l) d = some d') : runT N B args ms = .ok d' ms := by
  unfold runT
  rw [h]
  simp only [bind_ok, hd]
  rw [if_pos (show Tidy ms.length ms (ms ++ l) from fun n hn => .inl (List.getElem?_append_left hn))]
  simp
theorem low_ints (n : Nat) (l : List Int) : lowDs n (l.map D.int) = true := by
  induction l with
  | nil => rfl
  | cons x l ih => exact ih
theorem low_ties (n : Nat) (l : List Tie) : lowDs n (l.map tieD) = true := by
  induction l with
  | nil => rfl
  | cons x l ih => exact ih
theorem stand_ok (h : WebAt ms w a b c W) (k : StOk W.stand) : sem_Web_stand [.ptr w] ms = .ok (standD W.stand) ms := by
  have e1 := places_ok h k
  have h1 := h.push [.lst (W.ps.map D.int)]
  have e2 := ties_ok h1 k
  have h2 := h1.push [.lst (W.ts.map tieD)]
  rw [sem_Web_stand_eq]
  refine runT_frz (l := [.lst (W.ps.map D.int), .lst (W.ts.map tieD)]) (d := .tup [.ptr ms.length, .ptr (ms.length + 1), .int W.np, .int W.nt]) ?_ ?_
  · have o1 := h1.o
    have o2 := h2.o
    simp only [List.length_append, List.length_cons, List.length_nil, List.append_assoc, List.cons_append, List.nil_append] at e2 o2
    simp -implicitDefEqProofs [B_Web_stand, h.o, e1, o1, e2, o2]
  · have q1 : (ms ++ [Cell.lst (W.ps.map D.int), .lst (W.ts.map tieD)])[ms.length]? = some (.lst (W.ps.map D.int)) := by simp
    have q2 : (ms ++ [Cell.lst (W.ps.map D.int), .lst (W.ts.map tieD)])[ms.length + 1]? = some (.lst (W.ts.map tieD)) := by
      rw [List.getElem?_append_right (by omega)]; simp
    have q3 : ¬ (ms.length + 1 < ms.length) := by omega
    simp only [frz, frzs, q1, q2, low_ints, low_ties, standD, Web.stand, Nat.lt_irrefl, q3, if_true, if_false, Option.map_some]
theorem set_at (n : Nat) (hn : n < ms.length) : ∀ x : Cell, (ms.set n x)[n]? = some x := fun x => List.getElem?_set_self hn
theorem mark_ok (h : WebAt ms w a b c W) (k : WOk W) : sem_Web_mark [.ptr w] ms = .ok (.int W.mks.length) (ms.set c (.lst ((W.mks ++ [W.stand]).map standD))) := by
  have hs := set_at c (lt_of h.m)
  have f : W.mks.length < 16777216 := by have := k.many; omega
  simp -implicitDefEqProofs [sem_Web_mark_eq, B_Web_mark, h.o, h.m, stand_ok h k.st, f, hs, List.getElem?_set_ne h.wc.symm]
  first | done | omega | skip
theorem need_place_ok (h : WebAt ms w a b c W) {p : Int} (hp : p ∈ W.ps) : sem_Web__need_place [.ptr w, .int p] ms = .ok .non ms := by
  simp -implicitDefEqProofs [sem_Web__need_place_eq, B_Web__need_place, h.o, h.p, val_pl, hp]
theorem need_tie_ok (h : WebAt ms w a b c W) (k : StOk W.stand) {t : Tie} (ht : t ∈ W.ts) : sem_Web__need_tie [.ptr w, .int t.1] ms = .ok .non ms := by
  have v : valD (tiK W.ts) (.inl t.1) = some (endD t) := val_ti k.tr ht
  simp -implicitDefEqProofs [sem_Web__need_tie_eq, B_Web__need_tie, h.o, h.t, v]
def atP (p : Int) (t : Tie) : Bool := decide (p = t.2.1) || decide (p = t.2.2.2)
theorem ties_at_ok (h : WebAt ms w a b c W) (k : StOk W.stand) {p : Int} (hp : p ∈ W.ps) : sem_Web_ties_at [.ptr w, .int p] ms = .ok (.ptr (ms.length + 1)) (ms ++ [.lst (W.ts.map tieD), .lst ((W.ts.filter (atP p)).map fun t => .int t.1)]) := by
  have f : W.ts.length ≤ 1000 := k.few.2
  have f1 : W.ts.length ≤ 16777216 := by omega
  have f2 : (W.ts.filter (atP p)).length ≤ 16777216 := by have := (List.filter_sublist (l := W.ts) (p := atP p)).length_le; omega
  obtain ⟨m1, hm1⟩ : ∃ m1 : MS, m1 = ms ++ [.lst (W.ts.map tieD)] := ⟨_, rfl⟩
  have l1 : m1.length = ms.length + 1 := by rw [hm1]; simp
  have q1 : m1[ms.length]? = some (.lst (W.ts.map tieD)) := by rw [hm1]; simp
  have e0 := ties_ok h k
  rw [← hm1] at e0
  have e3 : m1 ++ [Cell.lst ((W.ts.filter (atP p)).map fun t => .int t.1)] = ms ++ [.lst (W.ts.map tieD), .lst ((W.ts.filter (atP p)).map fun t => .int t.1)] := by rw [hm1]; simp
  rw [← e3, ← l1]
  generalize ms.length = n at q1 e0
  have e1 : compLoop (fun i m => nxOf (rlOf m (.ptr n)) i) (stepOf (tupT 4 (consT (nameT 2) (consT (nameT 3) (consT (nameT 4) (consT (nameT 5) nilT))))) (valT (binE (varE 1) (appE (consA (varE 3) (consA (varE 5) nilA)) mkTup) (inD false))) (varE 2) [some (.ptr w), some (.int p), none, none, none, none]) (W.ts.length + 1) 0 [] m1 = .ok (W.ts.filterMap fun t => if atP p t = true then some (.int t.1) else none) m1 := by
    refine comp_zipf W.ts tieD _ (fun i => by simp only [rlOf, q1]) (by show _ ≤ 16777216; omega) (fun t ht => ?_) (by simp)
    cases q : atP p t with
    | true =>
      have q' : hasD (.int p) [.int t.2.1, .int t.2.2.2] = true := by
        unfold atP at q
        simp only [Bool.or_eq_true, decide_eq_true_eq] at q
        simp [hasD, flV, eqV]
        rcases q with q | q
        · exact .inl q.symm
        · exact .inr q.symm
      simp -implicitDefEqProofs [tieD, flatD, q']
    | false =>
      have q' : hasD (.int p) [.int t.2.1, .int t.2.2.2] = false := by
        unfold atP at q
        simp only [Bool.or_eq_false_iff, decide_eq_false_iff_not] at q
        simp [hasD, flV, eqV]
        exact ⟨fun e => q.1 e.symm, fun e => q.2 e.symm⟩
      simp -implicitDefEqProofs [tieD, flatD, q']
  rw [filt_map] at e1
  simp only [rlOf] at e1
  simp -implicitDefEqProofs [sem_Web_ties_at_eq, B_Web_ties_at, h.o, need_place_ok h hp, e0, q1, f1, f2, e1]

/-- what is not among these cells stays -/
structure Fr (ms ms' : MS) (L : List Nat) : Prop where
  len : ms.length ≤ ms'.length
  at_ : ∀ n, n < ms.length → n ∉ L → ms'[n]? = ms[n]?
theorem Fr.refl {ms : MS} {L : List Nat} : Fr ms ms L := ⟨Nat.le_refl _, fun _ _ _ => rfl⟩
theorem Fr.trans {m1 m2 m3 : MS} {L L' : List Nat} (h : Fr m1 m2 L) (h' : Fr m2 m3 L') : Fr m1 m3 (L ++ L') :=
  ⟨Nat.le_trans h.len h'.len, fun n hn hL => by
    rw [List.mem_append, not_or] at hL
    rw [h'.at_ n (Nat.lt_of_lt_of_le hn h.len) hL.2, h.at_ n hn hL.1]⟩
theorem Fr.set {ms : MS} (n : Nat) (x : Cell) : Fr ms (ms.set n x) [n] := ⟨by simp, fun k _ hk => by rw [List.getElem?_set_ne]; simpa using fun e => hk (by simp [e])⟩
theorem Fr.push {ms : MS} (x : Cell) {L : List Nat} : Fr ms (ms ++ [x]) L := ⟨by simp, fun k hk _ => List.getElem?_append_left hk⟩
theorem place_ok (h : WebAt ms w a b c W) (k : StOk W.stand) (hf : (W.ps.length : Int) < W.mp) : sem_Web_place [.ptr w] ms = .ok (.int W.np) ((ms.set a (.dK (plK (W.ps ++ [W.np])))).set w (.obj "Web" (webF { W with np := W.np + 1 } a b c))) := by
  have f : W.ps.length ≤ 1000 := k.few.1
  have f16 : W.ps.length < 16777216 := by omega
  have hn : W.np ∉ W.ps := fun z => by have := (k.pl _ z).2; simp [Web.stand] at this
  have hl : (plK W.ps).length = W.ps.length := by simp [plK]
  have hm : ¬ W.mp ≤ (W.ps.length : Int) := by omega
  have hs := set_at (ms := ms) a (lt_of h.p)
  simp -implicitDefEqProofs [sem_Web_place_eq, B_Web_place, h.o, h.p, hl, hm, put_pl hn, List.getElem?_set_ne h.wa.symm, hs, f16]
theorem WebAt.place (h : WebAt ms w a b c W) (x : List Int) (y : Int) : WebAt ((ms.set a (.dK (plK x))).set w (.obj "Web" (webF { W with np := y } a b c))) w a b c { W with ps := x, np := y } where
  o := List.getElem?_set_self (by rw [List.length_set]; exact lt_of h.o)
  p := by rw [List.getElem?_set_ne h.wa]; exact List.getElem?_set_self (lt_of h.p)
  t := by rw [List.getElem?_set_ne h.wb, List.getElem?_set_ne h.ab]; exact h.t
  m := by rw [List.getElem?_set_ne h.wc, List.getElem?_set_ne h.ac]; exact h.m
  wa := h.wa
  wb := h.wb
  wc := h.wc
  ab := h.ab
  ac := h.ac
  bc := h.bc
theorem WebAt.tie (h : WebAt ms w a b c W) (x : List Tie) (y : Int) : WebAt ((ms.set b (.dK (tiK x))).set w (.obj "Web" (webF { W with nt := y } a b c))) w a b c { W with ts := x, nt := y } where
  o := List.getElem?_set_self (by rw [List.length_set]; exact lt_of h.o)
  p := by rw [List.getElem?_set_ne h.wa, List.getElem?_set_ne h.ab.symm]; exact h.p
  t := by rw [List.getElem?_set_ne h.wb]; exact List.getElem?_set_self (lt_of h.t)
  m := by rw [List.getElem?_set_ne h.wc, List.getElem?_set_ne h.bc]; exact h.m
  wa := h.wa
  wb := h.wb
  wc := h.wc
  ab := h.ab
  ac := h.ac
  bc := h.bc
theorem WebAt.drop (h : WebAt ms w a b c W) (x : List Int) : WebAt (ms.set a (.dK (plK x))) w a b c { W with ps := x } where
  o := by rw [List.getElem?_set_ne h.wa.symm]; exact h.o
  p := List.getElem?_set_self (lt_of h.p)
  t := by rw [List.getElem?_set_ne h.ab]; exact h.t
  m := by rw [List.getElem?_set_ne h.ac]; exact h.m
  wa := h.wa
  wb := h.wb
  wc := h.wc
  ab := h.ab
  ac := h.ac
  bc := h.bc
theorem WebAt.cut (h : WebAt ms w a b c W) (x : List Tie) : WebAt (ms.set b (.dK (tiK x))) w a b c { W with ts := x } where
  o := by rw [List.getElem?_set_ne h.wb.symm]; exact h.o
  p := by rw [List.getElem?_set_ne h.ab.symm]; exact h.p
  t := List.getElem?_set_self (lt_of h.t)
  m := by rw [List.getElem?_set_ne h.bc]; exact h.m
  wa := h.wa
  wb := h.wb
  wc := h.wc
  ab := h.ab
  ac := h.ac
  bc := h.bc
theorem WebAt.mark (h : WebAt ms w a b c W) (x : List Stand) : WebAt (ms.set c (.lst (x.map standD))) w a b c { W with mks := x } where
  o := by rw [List.getElem?_set_ne h.wc.symm]; exact h.o
  p := by rw [List.getElem?_set_ne h.ac.symm]; exact h.p
  t := by rw [List.getElem?_set_ne h.bc.symm]; exact h.t
  m := List.getElem?_set_self (lt_of h.m)
  wa := h.wa
  wb := h.wb
  wc := h.wc
  ab := h.ab
  ac := h.ac
  bc := h.bc
theorem tie_ok (h : WebAt ms w a b c W) (k : StOk W.stand) {p q : Int} {x : Str} (hp : p ∈ W.ps) (hq : q ∈ W.ps) (hx : isN x = true) (hxl : x.length ≤ 1000000) (hf : (W.ts.length : Int) < W.mt) :
    sem_Web_tie [.ptr w, .int p, .str x, .int q] ms = .ok (.int W.nt) ((ms.set b (.dK (tiK (W.ts ++ [(W.nt, p, x, q)])))).set w (.obj "Web" (webF { W with nt := W.nt + 1 } a b c))) := by
  have f : W.ts.length ≤ 1000 := k.few.2
  have f16 : W.ts.length < 16777216 := by omega
  have hn : W.nt ∉ W.ts.map (·.1) := fun z => by
    obtain ⟨t, ht, e⟩ := List.mem_map.mp z
    have := (k.tl t ht).2
    simp [Web.stand] at this
    omega
  have hl : (tiK W.ts).length = W.ts.length := by simp [tiK]
  have hm : ¬ W.mt ≤ (W.ts.length : Int) := by omega
  have hs := set_at (ms := ms) b (lt_of h.t)
  have hi := is_name_ok (x := x) (ms := ms) hxl
  rw [hx] at hi
  have hput : putD (tiK W.ts) (.inl W.nt) (.tup [.int p, .str x, .int q]) = tiK (W.ts ++ [(W.nt, p, x, q)]) := put_ti (t := (W.nt, p, x, q)) hn
  simp -implicitDefEqProofs [sem_Web_tie_eq, B_Web_tie, h.o, h.t, need_place_ok h hp, need_place_ok h hq, hi, hl, hm, hput, List.getElem?_set_ne h.wb.symm, hs, f16]
theorem cut_ok (h : WebAt ms w a b c W) (k : StOk W.stand) {t : Tie} (ht : t ∈ W.ts) : sem_Web_cut [.ptr w, .int t.1] ms = .ok .non (ms.set b (.dK (tiK (W.ts.filter fun s => decide (s.1 ≠ t.1))))) := by
  have v : valD (tiK W.ts) (.inl t.1) = some (endD t) := val_ti k.tr ht
  simp -implicitDefEqProofs [sem_Web_cut_eq, B_Web_cut, h.o, h.t, need_tie_ok h k ht, v, drop_ti]
theorem drop_ok (h : WebAt ms w a b c W) (k : StOk W.stand) {p : Int} (hp : p ∈ W.ps) (hf : W.ts.filter (atP p) = []) : sem_Web_drop [.ptr w, .int p] ms = .ok .non ((ms ++ [Cell.lst (W.ts.map tieD), Cell.lst []]).set a (.dK (plK (W.ps.filter fun q => decide (q ≠ p))))) := by
  have e := ties_at_ok h k hp
  rw [hf, List.map_nil] at e
  have h1 := h.push [.lst (W.ts.map tieD), .lst []]
  have o1 := h1.o
  have p1 := h1.p
  have q2 : (ms ++ [Cell.lst (W.ts.map tieD), .lst []])[ms.length + 1]? = some (.lst []) := by
    rw [List.getElem?_append_right (by omega)]; simp
  simp -implicitDefEqProofs [sem_Web_drop_eq, B_Web_drop, h.o, o1, p1, e, val_pl, hp, drop_pl, q2]
def intK : D → Key
  | .int i => .inl i
  | _ => .inl 0
def tupK : D → Key
  | .tup (.int i :: _) => .inl i
  | _ => .inl 0
def tupF : D → D × D
  | .tup (x :: r) => (x, .tup r)
  | d => (d, d)
/-- all that stands is put back -/
theorem put_back_ok (h : WebAt ms w a b c W) {s : Stand} (k : StOk s) :
    ∃ ms', sem_Web_put_back [.ptr w, standD s] ms = .ok .non ms' ∧ WebAt ms' w ms.length (ms.length + 1) c { W with ps := s.1, ts := s.2.1, np := s.2.2.1, nt := s.2.2.2 } ∧ Fr ms ms' [w] := by
  obtain ⟨ps, ts, np, nt⟩ := s
  have f1 : ps.length ≤ 1000 := k.few.1
  have f2 : ts.length ≤ 1000 := k.few.2
  have hw := lt_of h.o
  have hc := lt_of h.m
  obtain ⟨m1, hm1⟩ : ∃ m1 : MS, m1 = (ms.set w (.obj "Web" (webF { W with np := np } a b c))).set w (.obj "Web" (webF { W with np := np, nt := nt } a b c)) := ⟨_, rfl⟩
  have l1 : m1.length = ms.length := by rw [hm1]; simp
  have o1 : m1[w]? = some (.obj "Web" (webF { W with np := np, nt := nt } a b c)) := by rw [hm1]; exact List.getElem?_set_self (by rw [List.length_set]; exact hw)
  have hs1 := set_at (ms := ms) w hw
  -- the places
  have e1 : dcLoop (fun i _ => nxOf (some (ps.map D.int)) i) (stepOfD (nameT 4) yesT (varE 4) (cE (.bl true)) [some (.ptr w), some (.tup [.lst (ps.map D.int), .lst (ts.map tieD), .int np, .int nt]), some (.lst (ps.map D.int)), some (.lst (ts.map tieD)), none, none, none, none, none]) m1.length (ps.length + 1) 0 (m1 ++ [.dK []]) = .ok () (m1 ++ [.dK (plK ps)]) := by
    have z := dc_list (nx := fun i _ => nxOf (some (ps.map D.int)) i) (step := stepOfD (nameT 4) yesT (varE 4) (cE (.bl true)) [some (.ptr w), some (.tup [.lst (ps.map D.int), .lst (ts.map tieD), .int np, .int nt]), some (.lst (ps.map D.int)), some (.lst (ts.map tieD)), none, none, none, none, none]) (c := m1.length) (ms := m1 ++ [.dK []]) (ps.map D.int) (fun d => (d, .bl true)) intK (fun _ _ => rfl) (by simp)
      (fun d hd fs => by simp -implicitDefEqProofs) (fun d hd => by obtain ⟨i, _, rfl⟩ := List.mem_map.mp hd; rfl) (ps.length + 1) 0 [] (by simp) (by simp) (by show _ < 16777216; simp; omega)
    have q : (m1 ++ [Cell.dK []]).set m1.length (.dK []) = m1 ++ [.dK []] := by simp
    rw [q] at z
    rw [z, List.drop_zero, List.foldl_map]
    have y : ps.foldl (fun fs p => putD fs (intK (.int p)) (.bl true)) [] = plK ps := by
      exact (fold_put ps (fun p => p) (fun _ => D.bl true) [] (fun _ _ => rfl) (by rw [List.map_id']; exact k.pr)).trans (List.nil_append _)
    have y' : (m1 ++ [Cell.dK []]).set m1.length (.dK (plK ps)) = m1 ++ [.dK (plK ps)] := by simp
    rw [← y']
    exact congrArg _ (congrArg _ (congrArg _ y))
  obtain ⟨m2, hm2⟩ : ∃ m2 : MS, m2 = (m1 ++ [Cell.dK (plK ps)]).set w (.obj "Web" (webF { W with np := np, nt := nt } m1.length b c)) := ⟨_, rfl⟩
  have l2 : m2.length = m1.length + 1 := by rw [hm2]; simp
  have o1' : (m1 ++ [Cell.dK (plK ps)])[w]? = some (.obj "Web" (webF { W with np := np, nt := nt } a b c)) := by rw [List.getElem?_append_left (by omega)]; exact o1
  have o2 : m2[w]? = some (.obj "Web" (webF { W with np := np, nt := nt } m1.length b c)) := by rw [hm2]; exact List.getElem?_set_self (by simp; omega)
  -- the ties
  have e2 : dcLoop (fun i _ => nxOf (some (ts.map tieD)) i) (stepOfD (tupT 4 (consT (nameT 5) (consT (nameT 6) (consT (nameT 7) (consT (nameT 8) nilT))))) yesT (varE 5) (appE (consA (varE 6) (consA (varE 7) (consA (varE 8) nilA))) mkTup) [some (.ptr w), some (.tup [.lst (ps.map D.int), .lst (ts.map tieD), .int np, .int nt]), some (.lst (ps.map D.int)), some (.lst (ts.map tieD)), none, none, none, none, none]) m2.length (ts.length + 1) 0 (m2 ++ [.dK []]) = .ok () (m2 ++ [.dK (tiK ts)]) := by
    have z := dc_list (nx := fun i _ => nxOf (some (ts.map tieD)) i) (step := stepOfD (tupT 4 (consT (nameT 5) (consT (nameT 6) (consT (nameT 7) (consT (nameT 8) nilT))))) yesT (varE 5) (appE (consA (varE 6) (consA (varE 7) (consA (varE 8) nilA))) mkTup) [some (.ptr w), some (.tup [.lst (ps.map D.int), .lst (ts.map tieD), .int np, .int nt]), some (.lst (ps.map D.int)), some (.lst (ts.map tieD)), none, none, none, none, none]) (c := m2.length) (ms := m2 ++ [.dK []]) (ts.map tieD) tupF tupK (fun _ _ => rfl) (by simp)
      (fun d hd fs => by obtain ⟨t, _, rfl⟩ := List.mem_map.mp hd; simp -implicitDefEqProofs [tieD, tupF]) (fun d hd => by obtain ⟨t, _, rfl⟩ := List.mem_map.mp hd; rfl) (ts.length + 1) 0 [] (by simp) (by simp) (by show _ < 16777216; simp; omega)
    have q : (m2 ++ [Cell.dK []]).set m2.length (.dK []) = m2 ++ [.dK []] := by simp
    rw [q] at z
    rw [z, List.drop_zero, List.foldl_map]
    have y : ts.foldl (fun fs t => putD fs (tupK (tieD t)) (tupF (tieD t)).2) [] = tiK ts := by
      exact (fold_put ts (fun t => t.1) endD [] (fun _ _ => rfl) k.tr).trans (List.nil_append _)
    have y' : (m2 ++ [Cell.dK []]).set m2.length (.dK (tiK ts)) = m2 ++ [.dK (tiK ts)] := by simp
    rw [← y']
    exact congrArg _ (congrArg _ (congrArg _ y))
  have o2' : (m2 ++ [Cell.dK (tiK ts)])[w]? = some (.obj "Web" (webF { W with np := np, nt := nt } m1.length b c)) := by rw [List.getElem?_append_left (by omega)]; exact o2
  refine ⟨(m2 ++ [Cell.dK (tiK ts)]).set w (.obj "Web" (webF { W with np := np, nt := nt } m1.length m2.length c)), ?_, ?_, ?_⟩
  · have hm1' : (ms.set w (.obj "Web" (webF { W with np := np } a b c))).set w (.obj "Web" (webF { W with np := np, nt := nt } a b c)) = m1 := hm1.symm
    have e1' := e1
    simp -implicitDefEqProofs [sem_Web_put_back_eq, B_Web_put_back, standD, h.o, hs1, hm1', o1, e1, o1', ← hm2, o2, e2, o2']
  · rw [l2, l1]
    refine ⟨?_, ?_, ?_, ?_, by omega, by omega, h.wc, by omega, by omega, by omega⟩
    · exact List.getElem?_set_self (by simp; omega)
    · rw [List.getElem?_set_ne (by omega), List.getElem?_append_left (by omega), hm2, List.getElem?_set_ne (by omega), ← l1]
      simp
    · rw [List.getElem?_set_ne (by omega), ← l1, ← l2]
      simp
    · rw [List.getElem?_set_ne h.wc, List.getElem?_append_left (by omega), hm2, List.getElem?_set_ne h.wc, List.getElem?_append_left (by omega), hm1, List.getElem?_set_ne h.wc, List.getElem?_set_ne h.wc]
      exact h.m
  · refine ⟨by simp; omega, fun n hn hL => ?_⟩
    have hne : w ≠ n := fun e => hL (by simp [e])
    rw [List.getElem?_set_ne hne, List.getElem?_append_left (by omega), hm2, List.getElem?_set_ne hne, List.getElem?_append_left (by omega), hm1, List.getElem?_set_ne hne, List.getElem?_set_ne hne]
theorem undo_ok (h : WebAt ms w a b c W) (k : WOk W) {m : Nat} {s : Stand} (hm : W.mks[m]? = some s) :
    ∃ ms', sem_Web_undo [.ptr w, .int m] ms = .ok .non ms' ∧ WebAt ms' w ms.length (ms.length + 1) c { W with ps := s.1, ts := s.2.1, np := s.2.2.1, nt := s.2.2.2, mks := W.mks.take (m + 1) } ∧ Fr ms ms' [w, c] := by
  have hlt : m < W.mks.length := (List.getElem?_eq_some_iff.mp hm).1
  obtain ⟨m1, e1, h1, fr⟩ := put_back_ok h (k.mok s (List.mem_of_getElem? hm))
  have f := k.many
  have g1 : (0 : Int) ≤ (m : Int) := by omega
  have g2 : (m : Int) < (W.mks.length : Int) := by omega
  have g3 : atI (W.mks.map standD) (m : Int) = some (standD s) := by rw [atI_lit, List.getElem?_map, hm]; rfl
  have g4 : (W.mks.length) ≤ 16777216 := by omega
  refine ⟨m1.set c (.lst ((W.mks.take (m + 1)).map standD)), ?_, h1.mark _, (fr.trans (Fr.set c _))⟩
  have g5 : ((m : Int) + 1).toNat = m + 1 := by omega
  have g6 : (0 : Int) ≤ (m : Int) + 1 := by omega
  have g7 : (m : Int) + 1 ≤ (W.mks.length : Int) := by omega
  simp -implicitDefEqProofs [sem_Web_undo_eq, B_Web_undo, h.o, h.m, g2, g3, g4, e1, h1.o, h1.m, g5, g6, g7, List.map_take]
theorem init_ok (x y : Int) : ∃ ms', sem_Web___init__ [.ptr ms.length, .int x, .int y] (ms ++ [.obj "Web" []]) = .ok .non ms' ∧ WebAt ms' ms.length (ms.length + 1) (ms.length + 2) (ms.length + 3) ⟨x, y, [], [], 0, 0, []⟩ ∧ Fr ms ms' [] := by
  have q1 : ∀ (x y : Cell) (l : List Cell), (ms ++ x :: l).set ms.length y = ms ++ y :: l := fun x y l => by simp
  have q2 : ∀ (x : Cell) (l : List Cell), (ms ++ x :: l)[ms.length]? = some x := fun x l => by simp
  have n0 := str_ne (x := "_most_places") (y := "_most_ties") (by decide +kernel)
  have n1 := str_ne (x := "_most_places") (y := "_places") (by decide +kernel)
  have n2 := str_ne (x := "_most_ties") (y := "_places") (by decide +kernel)
  have n3 := str_ne (x := "_most_places") (y := "_ties") (by decide +kernel)
  have n4 := str_ne (x := "_most_ties") (y := "_ties") (by decide +kernel)
  have n5 := str_ne (x := "_places") (y := "_ties") (by decide +kernel)
  have n6 := str_ne (x := "_most_places") (y := "_next_place") (by decide +kernel)
  have n7 := str_ne (x := "_most_ties") (y := "_next_place") (by decide +kernel)
  have n8 := str_ne (x := "_places") (y := "_next_place") (by decide +kernel)
  have n9 := str_ne (x := "_ties") (y := "_next_place") (by decide +kernel)
  have n10 := str_ne (x := "_most_places") (y := "_next_tie") (by decide +kernel)
  have n11 := str_ne (x := "_most_ties") (y := "_next_tie") (by decide +kernel)
  have n12 := str_ne (x := "_places") (y := "_next_tie") (by decide +kernel)
  have n13 := str_ne (x := "_ties") (y := "_next_tie") (by decide +kernel)
  have n14 := str_ne (x := "_next_place") (y := "_next_tie") (by decide +kernel)
  have n15 := str_ne (x := "_most_places") (y := "_marks") (by decide +kernel)
  have n16 := str_ne (x := "_most_ties") (y := "_marks") (by decide +kernel)
  have n17 := str_ne (x := "_places") (y := "_marks") (by decide +kernel)
  have n18 := str_ne (x := "_ties") (y := "_marks") (by decide +kernel)
  have n19 := str_ne (x := "_next_place") (y := "_marks") (by decide +kernel)
  have n20 := str_ne (x := "_next_tie") (y := "_marks") (by decide +kernel)
  refine ⟨ms ++ [.obj "Web" (webF ⟨x, y, [], [], 0, 0, []⟩ (ms.length + 1) (ms.length + 2) (ms.length + 3)), .dK [], .dK [], .lst []], ?_, ?_, ?_⟩
  · simp -implicitDefEqProofs [sem_Web___init___eq, B_Web___init__, q1, q2, putFD, webF, n0, n1, n2, n3, n4, n5, n6, n7, n8, n9, n10, n11, n12, n13, n14, n15, n16, n17, n18, n19, n20]
  · refine ⟨by simp, ?_, ?_, ?_, by omega, by omega, by omega, by omega, by omega, by omega⟩
    · rw [List.getElem?_append_right (by omega)]; simp [plK]
    · rw [List.getElem?_append_right (by omega)]; simp [tiK]
    · rw [List.getElem?_append_right (by omega)]; simp
  · exact ⟨by simp, fun n hn _ => List.getElem?_append_left hn⟩
end
end LW

set_option maxHeartbeats 4000000
namespace LW
open PySem PySem.Spec L2 DL
open PyProof.Rows hiding St

/-! ### refusals -/
/-- a number that can be written -/
def Sm (i : Int) : Prop := i.natAbs < 100000000000000000000000000000000000000000000000000000000000000
theorem sm_log {i : Int} (h : Sm i) : i.natAbs.log2 < 1920 := by
  unfold Sm at h
  by_cases z : i.natAbs = 0
  · rw [z]; decide +kernel
  · have := (Nat.log2_lt z (k := 210)).mpr (by omega)
    omega
theorem sm_str {i : Int} (h : Sm i) : (Str.ofString (toString i)).length ≤ 100 := by
  rw [PySem.ofString_length]
  have := int_text_length_le10 (a := i) (k := 62) (by decide) (by unfold Sm at h; omega)
  omega
theorem sm_fits {i : Int} (h : Sm i) : numFits i := ⟨sm_log h, Nat.le_trans (sm_str h) (by decide)⟩
section
variable {ms : MS} {env : DL.Env} {f : DL.Env → MS → Res D} {i : Int} {s t : Str}
theorem join3 (hf : f env ms = .ok (.int i) ms) (hi : Sm i) (hs : s.length ≤ 100) (ht : t.length ≤ 100) : ∃ y, joinsE [cE (.str s), fmtE f, cE (.str t)] Str.empty env ms = .ok (.str y) ms := by
  have h1 := sm_log hi
  have h2 := sm_str hi
  have h0 : (Str.empty : Str).length = 0 := rfl
  have k1 : (Str.empty ++ s : Str).length ≤ 16777216 := by rw [app_len]; omega
  have k2 : (Str.empty ++ s ++ Str.ofString (toString i) : Str).length ≤ 16777216 := by rw [app_len, app_len]; omega
  have k3 : (Str.empty ++ s ++ Str.ofString (toString i) ++ t : Str).length ≤ 16777216 := by rw [app_len, app_len, app_len]; omega
  exact ⟨Str.empty ++ s ++ Str.ofString (toString i) ++ t, by
    simp only [joinsE, cE, bind_ok, fmtE, hf]
    rw [if_pos k1, if_pos h1]
    simp only [bind_ok]
    rw [if_pos k2, if_pos k3]⟩
theorem join2 (hf : f env ms = .ok (.int i) ms) (hi : Sm i) (hs : s.length ≤ 100) : ∃ y, joinsE [cE (.str s), fmtE f] Str.empty env ms = .ok (.str y) ms := by
  have h1 := sm_log hi
  have h2 := sm_str hi
  have h0 : (Str.empty : Str).length = 0 := rfl
  have k1 : (Str.empty ++ s : Str).length ≤ 16777216 := by rw [app_len]; omega
  have k2 : (Str.empty ++ s ++ Str.ofString (toString i) : Str).length ≤ 16777216 := by rw [app_len, app_len]; omega
  exact ⟨Str.empty ++ s ++ Str.ofString (toString i), by
    simp only [joinsE, cE, bind_ok, fmtE, hf]
    rw [if_pos k1, if_pos h1]
    simp only [bind_ok]
    rw [if_pos k2]⟩
variable {w a b c : Nat} {W : Web} {p q : Int} {x : Str}
theorem need_place_no (h : WebAt ms w a b c W) (hp : p ∉ W.ps) (hs : Sm p) : sem_Web__need_place [.ptr w, .int p] ms = .exc ⟨"NoPlace", none, [some (.ptr w), some (.int p)]⟩ ms := by
  obtain ⟨y, hy⟩ := join3 (s := "place ") (t := " is not there") (f := varE 1) (env := [some (.ptr w), some (.int p)]) (ms := ms) (i := p) rfl hs (by decide +kernel) (by decide +kernel)
  simp -implicitDefEqProofs [sem_Web__need_place_eq, B_Web__need_place, h.o, h.p, val_pl, hp, hy]
theorem need_tie_no (h : WebAt ms w a b c W) (hp : p ∉ W.ts.map (·.1)) (hs : Sm p) : sem_Web__need_tie [.ptr w, .int p] ms = .exc ⟨"NoTie", none, [some (.ptr w), some (.int p)]⟩ ms := by
  obtain ⟨y, hy⟩ := join3 (s := "tie ") (t := " is not there") (f := varE 1) (env := [some (.ptr w), some (.int p)]) (ms := ms) (i := p) rfl hs (by decide +kernel) (by decide +kernel)
  have v := val_no hp
  simp -implicitDefEqProofs [sem_Web__need_tie_eq, B_Web__need_tie, h.o, h.t, v, hy]
theorem place_no (h : WebAt ms w a b c W) (k : StOk W.stand) (hf : W.mp ≤ (W.ps.length : Int)) (hs : Sm W.mp) : ∃ env, sem_Web_place [.ptr w] ms = .exc ⟨"Full", some ("most", W.mp), env⟩ ms := by
  have f : W.ps.length ≤ 1000 := k.few.1
  have f16 : W.ps.length < 16777216 := by omega
  have hl : (plK W.ps).length = W.ps.length := by simp [plK]
  have hfit := sm_fits hs
  refine ⟨[some (.ptr w), none], ?_⟩
  simp -implicitDefEqProofs [sem_Web_place_eq, B_Web_place, h.o, h.p, hl, hf, f16, hfit]
theorem tie_no1 (h : WebAt ms w a b c W) (hp : p ∉ W.ps) (hs : Sm p) : ∃ env, sem_Web_tie [.ptr w, .int p, .str x, .int q] ms = .exc ⟨"NoPlace", none, env⟩ ms := by
  have e := need_place_no h hp hs
  refine ⟨[some (.ptr w), some (.int p), some (.str x), some (.int q), none], ?_⟩
  simp -implicitDefEqProofs [sem_Web_tie_eq, B_Web_tie, h.o, e]
theorem tie_no2 (h : WebAt ms w a b c W) (hp : p ∈ W.ps) (hq : q ∉ W.ps) (hs : Sm q) : ∃ env, sem_Web_tie [.ptr w, .int p, .str x, .int q] ms = .exc ⟨"NoPlace", none, env⟩ ms := by
  have e := need_place_no h hq hs
  refine ⟨[some (.ptr w), some (.int p), some (.str x), some (.int q), none], ?_⟩
  simp -implicitDefEqProofs [sem_Web_tie_eq, B_Web_tie, h.o, need_place_ok h hp, e]
theorem tie_no3 (h : WebAt ms w a b c W) (hp : p ∈ W.ps) (hq : q ∈ W.ps) (hx : isN x = false) (hxl : x.length ≤ 1000000) : ∃ env, sem_Web_tie [.ptr w, .int p, .str x, .int q] ms = .exc ⟨"NoName", none, env⟩ ms := by
  have hi := is_name_ok (x := x) (ms := ms) hxl
  rw [hx] at hi
  refine ⟨[some (.ptr w), some (.int p), some (.str x), some (.int q), none], ?_⟩
  simp -implicitDefEqProofs [sem_Web_tie_eq, B_Web_tie, h.o, need_place_ok h hp, need_place_ok h hq, hi]
theorem tie_no4 (h : WebAt ms w a b c W) (k : StOk W.stand) (hp : p ∈ W.ps) (hq : q ∈ W.ps) (hx : isN x = true) (hxl : x.length ≤ 1000000) (hf : W.mt ≤ (W.ts.length : Int)) (hs : Sm W.mt) : ∃ env, sem_Web_tie [.ptr w, .int p, .str x, .int q] ms = .exc ⟨"Full", some ("most", W.mt), env⟩ ms := by
  have f : W.ts.length ≤ 1000 := k.few.2
  have f16 : W.ts.length < 16777216 := by omega
  have hi := is_name_ok (x := x) (ms := ms) hxl
  rw [hx] at hi
  have hl : (tiK W.ts).length = W.ts.length := by simp [tiK]
  have hfit := sm_fits hs
  refine ⟨[some (.ptr w), some (.int p), some (.str x), some (.int q), none], ?_⟩
  simp -implicitDefEqProofs [sem_Web_tie_eq, B_Web_tie, h.o, h.t, need_place_ok h hp, need_place_ok h hq, hi, hl, hf, f16, hfit]
theorem cut_no (h : WebAt ms w a b c W) (hp : p ∉ W.ts.map (·.1)) (hs : Sm p) : ∃ env, sem_Web_cut [.ptr w, .int p] ms = .exc ⟨"NoTie", none, env⟩ ms := by
  have e := need_tie_no h hp hs
  refine ⟨[some (.ptr w), some (.int p)], ?_⟩
  simp -implicitDefEqProofs [sem_Web_cut_eq, B_Web_cut, h.o, e]
theorem ends_no (h : WebAt ms w a b c W) (hp : p ∉ W.ts.map (·.1)) (hs : Sm p) : ∃ env, sem_Web_ends_of [.ptr w, .int p] ms = .exc ⟨"NoTie", none, env⟩ ms := by
  have e := need_tie_no h hp hs
  refine ⟨[some (.ptr w), some (.int p)], ?_⟩
  simp -implicitDefEqProofs [sem_Web_ends_of_eq, B_Web_ends_of, h.o, e]
theorem ends_ok (h : WebAt ms w a b c W) (k : StOk W.stand) {t : Tie} (ht : t ∈ W.ts) : sem_Web_ends_of [.ptr w, .int t.1] ms = .ok (endD t) ms := by
  have v1 : valD (tiK W.ts) (.inl t.1) = some (endD t) := val_ti k.tr ht
  simp -implicitDefEqProofs [sem_Web_ends_of_eq, B_Web_ends_of, h.o, h.t, need_tie_ok h k ht, v1]
theorem at_no (h : WebAt ms w a b c W) (hp : p ∉ W.ps) (hs : Sm p) : ∃ env, sem_Web_ties_at [.ptr w, .int p] ms = .exc ⟨"NoPlace", none, env⟩ ms := by
  have e := need_place_no h hp hs
  refine ⟨[some (.ptr w), some (.int p), none, none, none, none], ?_⟩
  simp -implicitDefEqProofs [sem_Web_ties_at_eq, B_Web_ties_at, h.o, e]
theorem drop_no1 (h : WebAt ms w a b c W) (hp : p ∉ W.ps) (hs : Sm p) : ∃ env, sem_Web_drop [.ptr w, .int p] ms = .exc ⟨"NoPlace", none, env⟩ ms := by
  obtain ⟨env, e⟩ := at_no h hp hs
  refine ⟨[some (.ptr w), some (.int p)], ?_⟩
  simp -implicitDefEqProofs [sem_Web_drop_eq, B_Web_drop, h.o, e]
theorem drop_no2 (h : WebAt ms w a b c W) (k : StOk W.stand) (hp : p ∈ W.ps) (hf : W.ts.filter (atP p) ≠ []) (hs : Sm p) : ∃ env, sem_Web_drop [.ptr w, .int p] ms = .exc ⟨"Tied", none, env⟩ (ms ++ [.lst (W.ts.map tieD), .lst ((W.ts.filter (atP p)).map fun t => .int t.1)]) := by
  have e := ties_at_ok h k hp
  obtain ⟨m1, hm1⟩ : ∃ m1 : MS, m1 = (ms ++ [.lst (W.ts.map tieD), .lst ((W.ts.filter (atP p)).map fun t => .int t.1)]) := ⟨_, rfl⟩
  have q2 : m1[ms.length + 1]? = some (.lst ((W.ts.filter (atP p)).map fun t => .int t.1)) := by
    rw [hm1, List.getElem?_append_right (by omega)]; simp
  obtain ⟨y, hy⟩ := join2 (s := "ties are at place ") (f := varE 1) (env := [some (.ptr w), some (.int p)]) (ms := m1) (i := p) rfl hs (by decide +kernel)
  rw [← hm1] at e ⊢
  obtain ⟨t, ts, ht⟩ : ∃ t ts, W.ts.filter (atP p) = t :: ts := by
    cases q : W.ts.filter (atP p) with
    | nil => exact absurd q hf
    | cons t ts => exact ⟨t, ts, rfl⟩
  rw [ht, List.map_cons] at q2
  refine ⟨[some (.ptr w), some (.int p)], ?_⟩
  simp -implicitDefEqProofs [sem_Web_drop_eq, B_Web_drop, h.o, e, q2, hy]
theorem undo_no (h : WebAt ms w a b c W) (k : WOk W) (hp : ¬ (0 ≤ p ∧ p < (W.mks.length : Int))) (hs : Sm p) : ∃ env, sem_Web_undo [.ptr w, .int p] ms = .exc ⟨"NoMark", none, env⟩ ms := by
  obtain ⟨y, hy⟩ := join3 (s := "mark ") (t := " is not there") (f := varE 1) (env := [some (.ptr w), some (.int p)]) (ms := ms) (i := p) rfl hs (by decide +kernel) (by decide +kernel)
  have f := k.many
  have f16 : W.mks.length ≤ 16777216 := by omega
  by_cases h0 : 0 ≤ p
  · have h1 : ¬ p < (W.mks.length : Int) := fun z => hp ⟨h0, z⟩
    refine ⟨[some (.ptr w), some (.int p)], ?_⟩
    simp -implicitDefEqProofs [sem_Web_undo_eq, B_Web_undo, h.o, h.m, h0, h1, f16, hy]
  · refine ⟨[some (.ptr w), some (.int p)], ?_⟩
    simp -implicitDefEqProofs [sem_Web_undo_eq, B_Web_undo, h.o, h.m, h0, f16, hy]
end
end LW

set_option maxHeartbeats 4000000
namespace LW
open PySem PySem.Spec L2 DL
open PyProof.Rows hiding St

theorem runT_push {N : Nat} {B : SF} {args : List D} {ms l : MS} {d : D} (h : runF N B args ms = .ok d (ms ++ l)) (hd : purD d = true) : runT N B args ms = .ok d ms := by
  unfold runT
  rw [h]
  simp only [bind_ok, frz_pur d hd]
  rw [if_pos (show Tidy ms.length ms (ms ++ l) from fun n hn => .inl (List.getElem?_append_left hn))]
  simp
/-- a list, as data or in a cell -/
def IsL (ms : MS) (a : DL.D) (xs : List DL.D) : Prop := a = .lst xs ∨ ∃ n, a = .ptr n ∧ ms[n]? = some (.lst xs)
theorem IsL.rl {ms : MS} {a : DL.D} {xs : List DL.D} (h : IsL ms a xs) : rlOf ms a = some xs := by
  rcases h with rfl | ⟨n, rfl, h⟩
  · rfl
  · simp only [rlOf, h]
theorem IsL.push {ms : MS} {a : DL.D} {xs : List DL.D} (h : IsL ms a xs) (l : MS) : IsL (ms ++ l) a xs := h.imp id fun ⟨n, e, q⟩ => ⟨n, e, by rw [List.getElem?_append_left (List.getElem?_eq_some_iff.mp q).1]; exact q⟩
theorem comp_l {α : Type} {env : DL.Env} {ms : MS} {f e : DL.Env → MS → Res D} {t : DL.Env → MS → Res Bool} {mk : List D → MS → Res D} {T : TF} {vs : List Nat} {d : D} (l : List α) (it out : α → D) (hf : f env ms = .ok d ms) (hd : IsL ms d (l.map it)) (hz : l.length ≤ 16777216)
    (hs : ∀ x ∈ l, stepOf T t e (wipeE env vs) (it x) ms = .ok (some (out x)) ms) : compE mk (lstSrc f) T t e vs env ms = mk (l.map out) ms := by
  have c := comp_zip (nx := fun i m => nxOf (rlOf m d) i) (step := stepOf T t e (wipeE env vs)) l it out (ms := ms) (fun i => by simp only [hd.rl]) hz hs (n := (l.map it).length + 1) (by simp)
  have q := hd.rl
  unfold compE lstSrc
  rw [hf]
  simp only [bind_ok, q, c, noExc]
theorem comp_lf {α : Type} {env : DL.Env} {ms : MS} {f e : DL.Env → MS → Res D} {t : DL.Env → MS → Res Bool} {mk : List D → MS → Res D} {T : TF} {vs : List Nat} {d : D} (l : List α) (p : α → Bool) (it out : α → D) (hf : f env ms = .ok d ms) (hd : IsL ms d (l.map it)) (hz : l.length ≤ 16777216)
    (hs : ∀ x ∈ l, stepOf T t e (wipeE env vs) (it x) ms = .ok (if p x = true then some (out x) else none) ms) : compE mk (lstSrc f) T t e vs env ms = mk ((l.filter p).map out) ms := by
  have c := comp_zipf (nx := fun i m => nxOf (rlOf m d) i) (step := stepOf T t e (wipeE env vs)) l it (fun x => if p x = true then some (out x) else none) (ms := ms) (fun i => by simp only [hd.rl]) hz hs (n := (l.map it).length + 1) (by simp)
  rw [filt_map] at c
  have q := hd.rl
  unfold compE lstSrc
  rw [hf]
  simp only [bind_ok, q, c, noExc]
abbrev num (i : Int) : Str := Str.ofString i.repr
def pT (p : Int) : Str := "place " ++ num p
def tT (t : Tie) : Str := "tie " ++ Txt.join " " [num t.1, num t.2.1, t.2.2.1, num t.2.2.2]
theorem num_len {i : Int} (h0 : 0 ≤ i) (h : i < 10000000000000) : (num i).length ≤ 13 := toString_length_le h0 (by decide) (by omega)
theorem num_log {i : Int} (h0 : 0 ≤ i) (h : i < 10000000000000) : i.natAbs.log2 < 1920 := by
  by_cases z : i.natAbs = 0
  · rw [z]; decide +kernel
  · have := (Nat.log2_lt z (k := 44)).mpr (by omega)
    omega
theorem join_cons (s y z : Str) (r : List Str) : Txt.join s (y :: z :: r) = y ++ s ++ Txt.join s (z :: r) := by
  have g : ∀ l, Txt.join s l = Str.join s l := fun l => StrLaws.glued_eq_join s l
  rw [g, g]
  rfl
theorem join_one (s y : Str) : Txt.join s [y] = y := by
  have g : ∀ l, Txt.join s l = Str.join s l := fun l => StrLaws.glued_eq_join s l
  rw [g]
  rfl
theorem app_assoc (x y z : Str) : x ++ y ++ z = x ++ (y ++ z) := ch_ext (by rw [ch_app, ch_app, ch_app, ch_app, List.append_assoc])
theorem empty_app (x : Str) : Str.empty ++ x = x := ch_ext (by rw [ch_app]; rfl)
theorem tT_eq (t : Tie) : tT t = Str.empty ++ "tie " ++ num t.1 ++ " " ++ num t.2.1 ++ " " ++ t.2.2.1 ++ " " ++ num t.2.2.2 := by
  unfold tT
  rw [join_cons, join_cons, join_cons, join_one, empty_app]
  simp only [app_assoc]
theorem pT_eq (p : Int) : pT p = Str.empty ++ "place " ++ num p := by rw [empty_app]; rfl
theorem l_place : ("place " : Str).length = 6 := by decide +kernel
theorem l_tie : ("tie " : Str).length = 4 := by decide +kernel
theorem l_sp : (" " : Str).length = 1 := by decide +kernel
theorem l_nl : ("\n" : Str).length = 1 := by decide +kernel
theorem pT_len {p : Int} (h0 : 0 ≤ p) (h : p < 10000000000000) : (pT p).length ≤ 60 := by
  have := num_len h0 h
  unfold pT
  rw [app_len, l_place]; omega
/-- numbers as they may stand -/
structure TOk' (t : Tie) : Prop where
  a : 0 ≤ t.1 ∧ t.1 < 10000000000000
  b : 0 ≤ t.2.1 ∧ t.2.1 < 10000000000000
  c : Nm t.2.2.1
  d : 0 ≤ t.2.2.2 ∧ t.2.2.2 < 10000000000000
theorem tT_len {t : Tie} (h : TOk' t) : (tT t).length ≤ 60 := by
  have h1 := num_len h.a.1 h.a.2
  have h2 := num_len h.b.1 h.b.2
  have h3 := num_len h.d.1 h.d.2
  have h4 := h.c.le
  rw [tT_eq]
  simp only [app_len, l_tie, l_sp]
  have : (Str.empty : Str).length = 0 := rfl
  omega
def lines (ps : List Int) (ts : List Tie) : List Str := ps.map pT ++ ts.map tT
def written (ps : List Int) (ts : List Tie) : Str := Txt.join "\n" (lines ps ts)
theorem sum_le (l : List Str) (B : Nat) (h : ∀ x ∈ l, x.length ≤ B) : (l.map (·.length)).sum ≤ l.length * B := by
  induction l with
  | nil => simp
  | cons x l ih =>
    have := ih fun y hy => h y (List.mem_cons_of_mem _ hy)
    have := h x (List.mem_cons_self ..)
    simp only [List.map_cons, List.sum_cons, List.length_cons]
    rw [Nat.add_mul]
    omega
structure NOk (ps : List Int) (ts : List Tie) : Prop where
  p : ∀ x ∈ ps, 0 ≤ x ∧ x < 10000000000000
  t : ∀ x ∈ ts, TOk' x
  few : ps.length ≤ 1000 ∧ ts.length ≤ 1000
theorem lines_sum {ps : List Int} {ts : List Tie} (h : NOk ps ts) : ((lines ps ts).map (·.length)).sum + (lines ps ts).length * ("\n" : Str).length ≤ 16777216 := by
  have h1 := sum_le (lines ps ts) 60 (fun x hx => by
    rcases List.mem_append.mp hx with z | z
    · obtain ⟨p, hp, rfl⟩ := List.mem_map.mp z; exact pT_len (h.p p hp).1 (h.p p hp).2
    · obtain ⟨t, ht, rfl⟩ := List.mem_map.mp z; exact tT_len (h.t t ht))
  have h2 : (lines ps ts).length ≤ 2000 := by unfold lines; simp; have := h.few; omega
  rw [l_nl]
  omega
theorem texts_map (l : List Str) : textsOf (l.map D.str) = some l := by
  induction l with
  | nil => rfl
  | cons x l ih =>
    rw [List.map_cons]
    unfold textsOf
    rw [ih]
    first | rfl | simp
theorem written_ok {ms : MS} {A B : D} {ps : List Int} {ts : List Tie} (hA : IsL ms A (ps.map D.int)) (hB : IsL ms B (ts.map tieD)) (h : NOk ps ts) : sem__law_web_written [A, B] ms = .ok (.str (written ps ts)) ms := by
  rw [sem__law_web_written_eq]
  have f1 : ps.length ≤ 1000 := h.few.1
  have f2 : ts.length ≤ 1000 := h.few.2
  refine runT_push (l := [.lst ((lines ps ts).map D.str)]) ?_ rfl
  have e1 := comp_l (mk := endM) (f := varE 0) (t := yesT) (T := nameT 4) (vs := [4]) (e := (binE (cE (.str "place ")) (appE (consA (varE 4) nilA) strP) addD)) (env := [some A, some B, none, none, none, none]) (ms := ms) ps D.int (fun p => D.str (pT p)) rfl hA (by omega) (fun p hp => by
    obtain ⟨h0, h1⟩ := h.p p hp
    have z1 := num_log h0 h1
    have z2 : ("place " : Str).length + (Str.ofString p.repr).length ≤ 16777216 := by have := num_len h0 h1; rw [l_place]; have e : (num p).length = (Str.ofString p.repr).length := rfl; omega
    simp -implicitDefEqProofs [z1, z2, pT])
  obtain ⟨a, m2, e2, h2⟩ := for_inv (nx := fun i m => nxOf (rlOf m B) i) (turn := turnOf (nameT 3) (dropS (appM (varE 2) (binE (cE (.str "tie ")) (joinE (cE (.str " ")) (compE endL (tupSrc (varE 3)) (nameT 5) yesT (appE (consA (varE 5) nilA) strP) [5])) addD))))
    (ts.map tieD) (fun i env m => (∃ e3 e4 e5, env = [some A, some B, some (.ptr ms.length), e3, e4, e5]) ∧ m = ms ++ [.lst ((ps.map pT ++ (ts.take i).map tT).map D.str)]) (fun _ _ => False) (fun _ _ => False) (fun i env m _ hI => by obtain ⟨_, rfl⟩ := hI; simp only [(hB.push _).rl]) (fun i x env m hx hI => by
      obtain ⟨⟨e3, e4, e5, rfl⟩, rfl⟩ := hI
      rw [List.getElem?_map] at hx
      cases q : ts[i]? with
      | none => rw [q] at hx; cases hx
      | some t =>
        rw [q] at hx
        cases hx
        have ht := h.t t (List.mem_of_getElem? q)
        have hi : i < ts.length := (List.getElem?_eq_some_iff.mp q).1
        obtain ⟨ta, tb, tc, td⟩ := ht
        have z1 := num_log ta.1 ta.2
        have z2 := num_log tb.1 tb.2
        have z3 := num_log td.1 td.2
        have n1 := num_len ta.1 ta.2
        have n2 := num_len tb.1 tb.2
        have n3 := num_len td.1 td.2
        have n4 := tc.le
        have c1 : ∀ m : MS, compLoop (fun i _ => nxOf (some [D.int t.1, .int t.2.1, .str t.2.2.1, .int t.2.2.2]) i) (stepOf (nameT 5) yesT (appE (consA (varE 5) nilA) strP) [some A, some B, some (.ptr ms.length), some (tieD t), e4, none]) 5 0 [] m = .ok [.str (num t.1), .str (num t.2.1), .str t.2.2.1, .str (num t.2.2.2)] m := fun m => by
          simp -implicitDefEqProofs [compLoop, nxOf, z1, z2, z3]
        have c2 : (num t.1).length + ((num t.2.1).length + (t.2.2.1.length + (num t.2.2.2).length)) + 4 * (" " : Str).length ≤ 16777216 := by rw [l_sp]; omega
        have c3 : ("tie " : Str).length + (Txt.join " " [num t.1, num t.2.1, t.2.2.1, num t.2.2.2]).length ≤ 16777216 := by
          have := tT_len (t := t) ⟨ta, tb, tc, td⟩
          unfold tT at this
          rw [app_len] at this
          omega
        have c4 : (ps.length + min i ts.length) < 16777216 := by omega
        have c5 : (ms ++ [Cell.lst ((ps.map pT ++ (ts.take i).map tT).map D.str)])[ms.length]? = some (.lst ((ps.map pT ++ (ts.take i).map tT).map D.str)) := by simp
        have c6 : ("tie " : Str) ++ Txt.join " " [num t.1, num t.2.1, t.2.2.1, num t.2.2.2] = tT t := rfl
        have c7 : (ts.take (i + 1)).map tT = (ts.take i).map tT ++ [tT t] := by rw [List.take_add_one, q, List.map_append]; rfl
        generalize hw : Txt.join " " [num t.1, num t.2.1, t.2.2.1, num t.2.2.2] = jn at c3 c6
        have hw' : Txt.join (Str.ofString " ") [Str.ofString t.1.repr, Str.ofString t.2.1.repr, t.2.2.1, Str.ofString t.2.2.2.repr] = jn := hw
        rw [c7]
        simp -implicitDefEqProofs [tieD] at c1
        simp -implicitDefEqProofs [tieD, c1, c2, c3, c4, c6, textsOf, hw']
        ) (ts.length + 1) 0 [some A, some B, some (.ptr ms.length), none, none, none] (ms ++ [.lst ((ps.map pT).map D.str)]) (by simp) (by simp) ⟨⟨_, _, _, rfl⟩, by simp⟩
  obtain ⟨fl, env⟩ := a
  cases fl with
  | brk => exact h2.elim
  | cont => exact h2.elim
  | ret d => exact h2.elim
  | nx =>
    rcases h2 with ⟨⟨e3, e4, e5, rfl⟩, rfl⟩ | h2
    · have z := lines_sum h
      have t1 := texts_map (lines ps ts)
      have e0 : (ps.map fun p => D.str (pT p)) = (ps.map pT).map D.str := by rw [List.map_map]; rfl
      rw [e0] at e1
      have f3 : (ts.map tieD).length = ts.length := by simp
      rw [f3, List.take_length] at e2
      have e3' : (ps.map pT ++ ts.map tT).map D.str = (lines ps ts).map D.str := rfl
      rw [e3'] at e2
      have c8 : (ms ++ [Cell.lst ((lines ps ts).map D.str)])[ms.length]? = some (.lst ((lines ps ts).map D.str)) := by simp
      have hB' := (hB.push [.lst ((ps.map pT).map D.str)]).rl
      generalize (lines ps ts).map D.str = L at e2 t1 c8
      generalize (ps.map pT).map D.str = L0 at e1 e2 hB'
      generalize ts.map tieD = X at hB' f3
      unfold runF B__law_web_written
      generalize hC : compE endM (lstSrc (varE 0)) (nameT 4) yesT (binE (cE (.str "place ")) (appE (consA (varE 4) nilA) strP) addD) [4] = C at e1 ⊢
      simp only [endM] at e1
      simp only [rlOf] at e2 hB'
      simp -implicitDefEqProofs [e1, hB', f3, e2, c8, t1, z]
      rfl
    · exact h2.elim

inductive Gives (env : DL.Env) (ms : MS) : List (DL.Env → MS → Res D) → List Str → Prop
  | nil : Gives env ms [] []
  | cons {f : DL.Env → MS → Res D} {fs : List (DL.Env → MS → Res D)} {y : Str} {ys : List Str} (h : f env ms = .ok (.str y) ms) (r : Gives env ms fs ys) : Gives env ms (f :: fs) (y :: ys)
theorem joins_ok {env : DL.Env} {ms : MS} {fs : List (DL.Env → MS → Res D)} {ys : List Str} (g : Gives env ms fs ys) : ∀ acc : Str, acc.length + (ys.map (·.length)).sum ≤ 16777216 → joinsE fs acc env ms = .ok (.str (ys.foldl (· ++ ·) acc)) ms := by
  induction g with
  | nil => intro acc _; rfl
  | @cons f fs y ys h r ih =>
    intro acc hl
    unfold joinsE
    rw [h]
    simp only [List.map_cons, List.sum_cons] at hl
    have e : (acc ++ y).length ≤ LIM := by rw [app_len]; show _ ≤ 16777216; omega
    simp only [bind_ok]
    rw [if_pos e, ih _ (by rw [app_len]; omega)]
    rfl
theorem fmt_int {f : DL.Env → MS → Res D} {env : DL.Env} {ms : MS} {i : Int} (h : f env ms = .ok (.int i) ms) (h0 : 0 ≤ i) (h1 : i < 10000000000000) : fmtE f env ms = .ok (.str (num i)) ms := by
  have z := num_log h0 h1
  simp -implicitDefEqProofs [h, z]
theorem fmt_str {f : DL.Env → MS → Res D} {env : DL.Env} {ms : MS} {x : Str} (h : f env ms = .ok (.str x) ms) (h1 : x.length ≤ 1000) : fmtE f env ms = .ok (.str x) ms := by
  have z : x.length ≤ 16777216 := by omega
  simp -implicitDefEqProofs [h, z]
section
variable {ms : MS} {w a b c : Nat} {W : Web}
theorem web_text_ok (h : WebAt ms w a b c W) (k : StOk W.stand) (hn : NOk W.ps W.ts) : sem_web_text [.ptr w] ms = .ok (.str (written W.ps W.ts)) ms := by
  rw [sem_web_text_eq]
  have f1 : W.ps.length ≤ 1000 := hn.few.1
  have f2 : W.ts.length ≤ 1000 := hn.few.2
  refine runT_push (l := [.lst (W.ps.map .int), .lst ((lines W.ps W.ts).map D.str), .lst (W.ts.map tieD)]) ?_ rfl
  have p1 := places_ok h k
  have h1 := h.push [.lst (W.ps.map .int)]
  have e1 : compE endM (lstSrc (methE "Web" "places" (varE 0) nilA (callP 1 sem_Web_places))) (nameT 2) yesT (joinsE [(cE (.str "place ")), (fmtE (varE 2))] Str.empty) [2] [some (.ptr w), none, none, none, none, none, none] ms = .ok (.ptr (ms.length + 1)) (ms ++ [.lst (W.ps.map .int), .lst ((W.ps.map pT).map D.str)]) := by
    have hl : IsL (ms ++ [.lst (W.ps.map .int)]) (.ptr ms.length) (W.ps.map .int) := .inr ⟨_, rfl, by simp⟩
    have e := comp_l (mk := endM) (f := varE 0) (t := yesT) (T := nameT 2) (vs := [2]) (e := (joinsE [(cE (.str "place ")), (fmtE (varE 2))] Str.empty)) (env := [some (.ptr ms.length), none, none, none, none, none, none]) (ms := ms ++ [.lst (W.ps.map .int)]) W.ps D.int (fun p => D.str (pT p)) rfl hl (by omega) (fun p hp => by
      obtain ⟨h0, h1⟩ := hn.p p hp
      have z := joins_ok (env := [some (.ptr ms.length), none, some (.int p), none, none, none, none]) (ms := ms ++ [.lst (W.ps.map .int)]) (.cons (f := cE (.str "place ")) rfl (.cons (f := fmtE (varE 2)) (fmt_int (i := p) rfl h0 h1) .nil)) Str.empty (by
        have := num_len h0 h1
        have : (Str.empty : Str).length = 0 := rfl
        simp only [List.map_cons, List.map_nil, List.sum_cons, List.sum_nil, l_place]
        omega)
      rw [show (["place ", num p] : List Str).foldl (· ++ ·) Str.empty = pT p from (pT_eq p).symm] at z
      simp -implicitDefEqProofs [z])
    have c := comp_zip (nx := fun i m => nxOf (rlOf m (.ptr ms.length)) i) (step := stepOf (nameT 2) yesT (joinsE [(cE (.str "place ")), (fmtE (varE 2))] Str.empty) [some (.ptr w), none, none, none, none, none, none]) W.ps D.int (fun p => D.str (pT p)) (ms := ms ++ [.lst (W.ps.map .int)]) (fun i => by simp only [hl.rl]) (by show _ ≤ 16777216; omega) (fun p hp => by
      obtain ⟨h0, h1⟩ := hn.p p hp
      have z := joins_ok (env := [some (.ptr w), none, some (.int p), none, none, none, none]) (ms := ms ++ [.lst (W.ps.map .int)]) (.cons (f := cE (.str "place ")) rfl (.cons (f := fmtE (varE 2)) (fmt_int (i := p) rfl h0 h1) .nil)) Str.empty (by
        have := num_len h0 h1
        have : (Str.empty : Str).length = 0 := rfl
        simp only [List.map_cons, List.map_nil, List.sum_cons, List.sum_nil, l_place]
        omega)
      rw [show (["place ", num p] : List Str).foldl (· ++ ·) Str.empty = pT p from (pT_eq p).symm] at z
      simp -implicitDefEqProofs [z]) (n := (W.ps.map D.int).length + 1) (by simp)
    have e0 : (W.ps.map fun p => D.str (pT p)) = (W.ps.map pT).map D.str := by rw [List.map_map]; rfl
    rw [e0] at c
    have at1 : (ms ++ [Cell.lst (W.ps.map .int)])[ms.length]? = some (.lst (W.ps.map .int)) := by simp
    have hll : (W.ps.map D.int).length = W.ps.length := by simp
    simp only [rlOf] at c
    generalize (W.ps.map pT).map D.str = L1 at c ⊢
    generalize W.ps.map D.int = L0 at c p1 at1 ⊢
    simp -implicitDefEqProofs [h.o, p1, at1, c]
  generalize hM : ms ++ [Cell.lst (W.ps.map .int), .lst ((W.ps.map pT).map D.str)] = m2 at e1
  have h2 : WebAt m2 w a b c W := hM ▸ h.push _
  have p2 := ties_ok h2 k
  have h3 := h2.push [.lst (W.ts.map tieD)]
  have at3 : (m2 ++ [Cell.lst (W.ts.map tieD)])[m2.length]? = some (.lst (W.ts.map tieD)) := by simp
  have c2 := comp_zip (nx := fun i m => nxOf (rlOf m (.ptr m2.length)) i) (step := stepOf (tupT 4 (consT (nameT 3) (consT (nameT 4) (consT (nameT 5) (consT (nameT 6) nilT))))) yesT (joinsE [(cE (.str "tie ")), (fmtE (varE 3)), (cE (.str " ")), (fmtE (varE 4)), (cE (.str " ")), (fmtE (varE 5)), (cE (.str " ")), (fmtE (varE 6))] Str.empty) [some (.ptr w), some (.ptr (ms.length + 1)), none, none, none, none, none]) W.ts tieD (fun t => D.str (tT t)) (ms := m2 ++ [.lst (W.ts.map tieD)]) (fun i => by simp only [rlOf, at3]) (by show _ ≤ 16777216; omega) (fun t ht => by
    obtain ⟨ta, tb, tc, td⟩ := hn.t t ht
    have n1 := num_len ta.1 ta.2
    have n2 := num_len tb.1 tb.2
    have n3 := num_len td.1 td.2
    have n4 := tc.le
    have z := joins_ok (env := [some (.ptr w), some (.ptr (ms.length + 1)), none, some (.int t.1), some (.int t.2.1), some (.str t.2.2.1), some (.int t.2.2.2)]) (ms := m2 ++ [.lst (W.ts.map tieD)])
      (.cons (f := cE (.str "tie ")) rfl (.cons (f := fmtE (varE 3)) (fmt_int (i := t.1) rfl ta.1 ta.2) (.cons (f := cE (.str " ")) rfl (.cons (f := fmtE (varE 4)) (fmt_int (i := t.2.1) rfl tb.1 tb.2) (.cons (f := cE (.str " ")) rfl (.cons (f := fmtE (varE 5)) (fmt_str (x := t.2.2.1) rfl (by omega)) (.cons (f := cE (.str " ")) rfl (.cons (f := fmtE (varE 6)) (fmt_int (i := t.2.2.2) rfl td.1 td.2) .nil)))))))) Str.empty (by
      have : (Str.empty : Str).length = 0 := rfl
      simp only [List.map_cons, List.map_nil, List.sum_cons, List.sum_nil, l_tie, l_sp]
      omega)
    rw [show (["tie ", num t.1, " ", num t.2.1, " ", t.2.2.1, " ", num t.2.2.2] : List Str).foldl (· ++ ·) Str.empty = tT t from (tT_eq t).symm] at z
    simp -implicitDefEqProofs [z, tieD]) (n := (W.ts.map tieD).length + 1) (by simp)
  have q := lines_sum hn
  have t1 := texts_map (lines W.ps W.ts)
  have e0' : (W.ts.map fun t => D.str (tT t)) = (W.ts.map tT).map D.str := by rw [List.map_map]; rfl
  rw [e0'] at c2
  have at2 : m2[ms.length + 1]? = some (.lst ((W.ps.map pT).map D.str)) := by
    rw [← hM, List.getElem?_append_right (by omega)]; simp
  have at4 : (m2 ++ [Cell.lst (W.ts.map tieD)])[ms.length + 1]? = some (.lst ((W.ps.map pT).map D.str)) := by
    rw [← hM, List.append_assoc, List.getElem?_append_right (by omega)]; simp
  have at5 : (m2 ++ [Cell.lst (W.ts.map tieD)]).set (ms.length + 1) (.lst ((W.ps.map pT).map D.str ++ (W.ts.map tT).map D.str)) = ms ++ [.lst (W.ps.map .int), .lst ((lines W.ps W.ts).map D.str), .lst (W.ts.map tieD)] := by
    rw [← hM, ← List.map_append, List.append_assoc, List.set_append_right _ _ (by omega)]
    simp [lines]
  have at6 : (ms ++ [Cell.lst (W.ps.map .int), .lst ((lines W.ps W.ts).map D.str), .lst (W.ts.map tieD)])[ms.length + 1]? = some (.lst ((lines W.ps W.ts).map D.str)) := by
    rw [List.getElem?_append_right (by omega)]; simp
  have c4 : ((W.ps.map pT).map D.str).length + ((W.ts.map tT).map D.str).length ≤ 16777216 := by simp; omega
  have hll : (W.ts.map tieD).length = W.ts.length := by simp
  simp only [rlOf] at c2
  have h2o := h2.o
  unfold runF B_web_text
  generalize compE endM (lstSrc (methE "Web" "places" (varE 0) nilA (callP 1 sem_Web_places))) (nameT 2) yesT (joinsE [(cE (.str "place ")), (fmtE (varE 2))] Str.empty) [2] = C at e1 ⊢
  generalize hM3 : m2 ++ [Cell.lst (W.ts.map tieD)] = m3 at p2 c2 at3 at4 at5
  generalize ms ++ [Cell.lst (W.ps.map .int), .lst ((lines W.ps W.ts).map D.str), .lst (W.ts.map tieD)] = m4 at at5 at6 ⊢
  generalize (lines W.ps W.ts).map D.str = L at t1 at6
  generalize (W.ps.map pT).map D.str = L1 at at2 at4 at5 c4
  generalize (W.ts.map tT).map D.str = L2 at c2 at5 c4
  generalize W.ts.map tieD = L3 at at3 c2 hll
  simp -implicitDefEqProofs [e1, h2o, p2, at2, at3, c2, at4, c4, at5, at6, t1, q]
  rfl
end
end LW

set_option maxHeartbeats 2000000
namespace LW
open PySem PySem.Spec L2 DL
open PyProof.Rows hiding St

theorem atI_map {α β : Type} (f : α → β) (l : List α) (i : Int) : atI (l.map f) i = (atI l i).map f := by
  unfold atI
  rw [List.length_map]
  cases ixN l.length i with
  | none => rfl
  | some j => simp
theorem OK_of {α : Type} {r : Res α} {a : α} {m : MS} {Q : α → MS → Prop} (h : r = .ok a m) (q : Q a m) : OK r Q := ⟨a, m, h, q⟩
/-- a stand within bounds: numbers below n, names of a kind -/
structure Sk (P : Str → Prop) (n mp mt : Int) (s : Stand) : Prop where
  st : StOk s
  nm : ∀ t ∈ s.2.1, P t.2.2.1
  np : s.2.2.1 ≤ n
  nt : s.2.2.2 ≤ n
  lp : (s.1.length : Int) ≤ mp
  lt : (s.2.1.length : Int) ≤ mt
section
variable {P : Str → Prop} {n mp mt : Int} {ps : List Int} {ts : List Tie} {np nt : Int}
theorem Sk.mono {n' : Int} {s : Stand} (h : Sk P n mp mt s) (hn : n ≤ n') : Sk P n' mp mt s := ⟨h.st, h.nm, by have := h.np; omega, by have := h.nt; omega, h.lp, h.lt⟩
theorem Sk.new (h0 : 0 ≤ n) (h1 : 0 ≤ mp) (h2 : 0 ≤ mt) : Sk P n mp mt ([], [], 0, 0) :=
  ⟨⟨.nil, (fun _ h => nomatch h), .nil, (fun _ h => nomatch h), (fun _ h => nomatch h), Int.le_refl 0, Int.le_refl 0, by simp⟩, (fun _ h => nomatch h), h0, h0, h1, h2⟩
theorem Sk.place (h : Sk P n mp mt (ps, ts, np, nt)) (hl : (ps.length : Int) < mp) (hm : mp ≤ 1000) : Sk P (n + 1) mp mt (ps ++ [np], ts, np + 1, nt) := by
  obtain ⟨⟨pr, pl, tr, tl, te, n0, t0, few⟩, nm, hnp, hnt, lp, lt⟩ := h
  refine ⟨⟨?_, ?_, tr, tl, ?_, ?_, t0, ?_⟩, nm, ?_, ?_, ?_, lt⟩
  · rw [List.pairwise_append]
    exact ⟨pr, by simp, fun a ha b hb => by have := (pl a ha).2; simp at hb; subst hb; exact this⟩
  · intro p hp
    rcases List.mem_append.mp hp with z | z
    · have := pl p z; simp only at this ⊢; omega
    · have : p = np := by simpa using z
      simp only at n0 ⊢; omega
  · intro t ht
    have := te t ht
    exact ⟨List.mem_append_left _ this.1, List.mem_append_left _ this.2⟩
  · simp only at n0 ⊢; omega
  · simp only at few ⊢; simp; omega
  · simp only at hnp ⊢; omega
  · simp only at hnt ⊢; omega
  · simp; omega
theorem Sk.tie {p q : Int} {x : Str} (h : Sk P n mp mt (ps, ts, np, nt)) (hp : p ∈ ps) (hq : q ∈ ps) (hx : P x) (hl : (ts.length : Int) < mt) (hm : mt ≤ 1000) : Sk P (n + 1) mp mt (ps, ts ++ [(nt, p, x, q)], np, nt + 1) := by
  obtain ⟨⟨pr, pl, tr, tl, te, n0, t0, few⟩, nm, hnp, hnt, lp, lt⟩ := h
  refine ⟨⟨pr, pl, ?_, ?_, ?_, n0, ?_, ?_⟩, ?_, ?_, ?_, lp, ?_⟩
  · rw [List.map_append, List.pairwise_append]
    refine ⟨tr, by simp, fun a ha b hb => ?_⟩
    obtain ⟨t, ht, rfl⟩ := List.mem_map.mp ha
    have := (tl t ht).2
    simp at hb
    subst hb
    exact this
  · intro t ht
    rcases List.mem_append.mp ht with z | z
    · have := tl t z; simp only at this ⊢; omega
    · have : t = (nt, p, x, q) := by simpa using z
      subst this
      simp only at t0 ⊢; omega
  · intro t ht
    rcases List.mem_append.mp ht with z | z
    · exact te t z
    · have : t = (nt, p, x, q) := by simpa using z
      subst this
      exact ⟨hp, hq⟩
  · simp only at t0 ⊢; omega
  · simp only at few ⊢; simp; omega
  · intro t ht
    rcases List.mem_append.mp ht with z | z
    · exact nm t z
    · have : t = (nt, p, x, q) := by simpa using z
      subst this
      exact hx
  · simp only at hnp ⊢; omega
  · simp only at hnt ⊢; omega
  · simp; omega
theorem Sk.cut (h : Sk P n mp mt (ps, ts, np, nt)) (f : Tie → Bool) : Sk P n mp mt (ps, ts.filter f, np, nt) := by
  obtain ⟨⟨pr, pl, tr, tl, te, n0, t0, few⟩, nm, hnp, hnt, lp, lt⟩ := h
  have hs : (ts.filter f).Sublist ts := List.filter_sublist
  have hl := hs.length_le
  exact ⟨⟨pr, pl, tr.sublist (hs.map _), fun t ht => tl t (hs.mem ht), fun t ht => te t (hs.mem ht), n0, t0, by simp only at few ⊢; omega⟩, fun t ht => nm t (hs.mem ht), hnp, hnt, lp, by simp only at lt ⊢; omega⟩
theorem Sk.drop {p : Int} (h : Sk P n mp mt (ps, ts, np, nt)) (hf : ∀ t ∈ ts, t.2.1 ≠ p ∧ t.2.2.2 ≠ p) : Sk P n mp mt (ps.filter fun q => decide (q ≠ p), ts, np, nt) := by
  obtain ⟨⟨pr, pl, tr, tl, te, n0, t0, few⟩, nm, hnp, hnt, lp, lt⟩ := h
  have hs : (ps.filter fun q => decide (q ≠ p)).Sublist ps := List.filter_sublist
  have hl := hs.length_le
  refine ⟨⟨pr.sublist hs, fun q hq => pl q (hs.mem hq), tr, tl, fun t ht => ?_, n0, t0, by simp only at few ⊢; omega⟩, nm, hnp, hnt, by simp only at lp ⊢; omega, lt⟩
  have h1 := te t ht
  have h2 := hf t ht
  exact ⟨List.mem_filter.mpr ⟨h1.1, by simpa using h2.1⟩, List.mem_filter.mpr ⟨h1.2, by simpa using h2.2⟩⟩
end
section
variable {A B F : SF} {env : DL.Env} {ms ms1 : MS} {t : DL.Env → MS → Res Bool} {Q : (Fl × DL.Env) → MS → Prop}
/-- an if whose suite ends the def -/
theorem seq_if_ret {b : Bool} (ht : t env ms = .ok b ms1) (h1 : b = true → OK (F env ms1) fun a m => (∃ d e, a = (.ret d, e)) ∧ Q a m) (h2 : b = false → OK (B env ms1) Q) : OK (seqS (ifS t F skipS) B env ms) Q := by
  unfold seqS ifS
  rw [ht]
  simp only [bind_ok]
  cases b with
  | true =>
    obtain ⟨a, m, e, ⟨d, e', rfl⟩, q⟩ := h1 rfl
    rw [if_pos rfl, e]
    exact ⟨_, _, rfl, q⟩
  | false =>
    rw [if_neg Bool.false_ne_true]
    exact h2 rfl
/-- a step whose outcome is known -/
theorem seq_nx {env' : DL.Env} (hA : A env ms = .ok (.nx, env') ms1) (hB : OK (B env' ms1) Q) : OK (seqS A B env ms) Q := by
  unfold seqS
  rw [hA]
  exact hB
theorem andT_eq {f g : DL.Env → MS → Res Bool} {b1 b2 : Bool} (h1 : f env ms = .ok b1 ms) (h2 : g env ms = .ok b2 ms) : andT f g env ms = .ok (b1 && b2) ms := by
  unfold andT
  rw [h1]
  cases b1 with
  | true => simpa using h2
  | false => rfl
end
end LW

set_option maxHeartbeats 4000000
namespace LW
open PySem PySem.Spec L2 DL
open PyProof.Rows hiding St

/-! ### numbers, read -/
abbrev figs : Str := "0123456789"
theorem ch_figs : ch figs = [48, 49, 50, 51, 52, 53, 54, 55, 56, 57] := by decide +kernel
def dg (c : Nat) : Bool := decide (c ∈ figs.cps)
theorem dg_iff (c : Nat) : dg c = true ↔ 48 ≤ c ∧ c ≤ 57 := by
  unfold dg
  rw [decide_eq_true_iff, ← Array.mem_toList_iff, show figs.cps.toList = _ from ch_figs]
  simp only [List.mem_cons, List.not_mem_nil, or_false]
  omega
theorem num_nat (n : Nat) : num (n : Int) = Str.ofString (toString (n : Int)) := rfl
theorem ch_num (n : Nat) : ch (num (n : Int)) = TL.numL n := TL.tl_num n
theorem num_int {i : Int} (h0 : 0 ≤ i) (h : i < 10000000000000) : PySem.intText? (num i) = some i := by
  obtain ⟨n, rfl⟩ := Int.eq_ofNat_of_zero_le h0
  exact TL.int_num (Nat.le_trans (TL.numL_len (k := 13) (by decide) (by omega)) (by decide))
theorem numL_head (n : Nat) : ∃ c r, TL.numL n = c :: r ∧ (c = 48 → n = 0) := by
  induction n using Nat.strongRecOn with
  | _ n ih =>
    by_cases h : n < 10
    · rw [TL.numL_lt h]
      exact ⟨_, _, rfl, fun e => by omega⟩
    · rw [TL.numL_step (by omega)]
      obtain ⟨c, r, e, hc⟩ := ih (n / 10) (by omega)
      rw [e]
      exact ⟨c, r ++ [48 + n % 10], rfl, fun z => by have := hc z; omega⟩
theorem num_free {i : Int} (h0 : 0 ≤ i) {s : Nat} (h : s < 48 ∨ 57 < s) : s ∉ ch (num i) := by
  obtain ⟨n, rfl⟩ := Int.eq_ofNat_of_zero_le h0
  rw [show ch (num ((n : Nat) : Int)) = TL.numL n from ch_num n]
  exact TL.numL_free h
theorem read_whole_ok {i : Int} (h0 : 0 ≤ i) (h : i < 10000000000000) {m : MS} : sem_read_whole [.str (num i)] m = .ok (.int i) m := by
  have hn := num_int h0 h
  have hl := num_len h0 h
  obtain ⟨n, rfl⟩ := Int.eq_ofNat_of_zero_le h0
  have hc : ch (num ((n : Nat) : Int)) = TL.numL n := ch_num n
  obtain ⟨c, r, e, h48⟩ := numL_head n
  have hdig := TL.numL_digits n
  have hz : num ((n : Nat) : Int) = "0" ↔ n = 0 := by
    constructor
    · intro q
      have q1 : ch (num ((n : Nat) : Int)) = TL.numL 0 := by rw [q]; decide +kernel
      rw [hc] at q1
      exact TL.numL_inj q1
    · rintro rfl; decide +kernel
  generalize hX : num ((n : Nat) : Int) = x at hn hl hc hz
  have hl1 : 1 ≤ x.length := by rw [ch_len, hc, e]; simp
  have h' : x.length ≤ 16777216 := by omega
  have c1' : (1 : Int) ≤ x.length := by omega
  have c2' : (x.length : Int) ≤ 50 := by omega
  have h640 : x.length ≤ 640 := by omega
  have e2 : compLoop (fun i _ => nxOf (some (x.cps.toList.map fun c => D.str ⟨#[c]⟩)) i) (stepOf (nameT 1) yesT (binE (varE 1) (cE c_FIGURES) (inD false)) [some (.str x), none]) (x.cps.size + 1) 0 [] m = .ok ((x.cps.toList.map fun c => D.str ⟨#[c]⟩).map fun d => match d with | .str y => .bl (dg (y.cps.getD 0 0)) | d => d) m := by
    refine comp_map (fun d => match d with | .str y => .bl (dg (y.cps.getD 0 0)) | d => d) (fun i => rfl) (by simpa [Str.length] using h') (fun y hy => ?_) (by simp)
    obtain ⟨c, _, rfl⟩ := List.mem_map.mp hy
    simp -implicitDefEqProofs [c_FIGURES]
    rfl
  have e3 : ((x.cps.toList.map fun c => D.str ⟨#[c]⟩).map fun d => match d with | .str y => D.bl (dg (y.cps.getD 0 0)) | d => d) = ((ch x).map dg).map D.bl := by
    rw [List.map_map, List.map_map]
    exact List.map_congr_left fun c _ => rfl
  rw [e3] at e2
  clear e3
  have hbs : ((ch x).map dg).all id = true := by
    rw [List.all_map, List.all_eq_true]
    intro c hc2
    rw [hc] at hc2
    exact (dg_iff c).mpr (hdig c hc2)
  generalize (ch x).map dg = bs at e2 hbs
  have hx0 : x.cps[0]? = some c := by rw [← Array.getElem?_toList]; show (ch x)[0]? = _; rw [hc, e]; rfl
  by_cases k1 : c = 48
  · have k2 : (x == ("0" : Str)) = true := beq_iff_eq.mpr (hz.mpr (h48 k1))
    have k3 : ((⟨#[c]⟩ : Str) == "0") = true := by rw [k1]; decide +kernel
    simp -implicitDefEqProofs [sem_read_whole_eq, B_read_whole, h', c1', c2', c_MOST_FIGURES, e2, hbs, hx0, k3, k2, hn, h640]
  · have k3 : ((⟨#[c]⟩ : Str) == "0") = false := by
      refine beq_eq_false_iff_ne.mpr fun z => k1 ?_
      have z2 := congrArg (fun s : Str => s.cps[0]?) z
      have z3 : some c = (("0" : Str).cps)[0]? := z2
      rw [show (("0" : Str).cps)[0]? = some 48 from by decide +kernel] at z3
      exact Option.some.inj z3
    simp -implicitDefEqProofs [sem_read_whole_eq, B_read_whole, h', c1', c2', c_MOST_FIGURES, e2, hbs, hx0, k3, hn, h640]
/-! ### rows, cut -/
theorem low_free {x : Str} (h : Low x) {s : Nat} (hs : s < 97 ∨ 122 < s) : s ∉ ch x := fun z => by have := h s z; omega
theorem split_place {p : Int} (h : 0 ≤ p) : Txt.split (pT p) " " = [("place" : Str), num p] := by
  have e : pT p = Txt.join " " [("place" : Str), num p] := by
    rw [join_cons, join_one]
    unfold pT
    rw [show ("place " : Str) = "place" ++ " " from by decide +kernel]
  rw [e]
  refine TL.split_join (s := 32) (S := []) (by decide +kernel) (by decide +kernel) (by simp) fun x hx => ?_
  simp only [List.mem_cons, List.not_mem_nil, or_false] at hx
  rcases hx with rfl | rfl
  · decide +kernel
  · exact num_free h (by decide)
theorem split_tie {t : Tie} (h : TOk' t) : Txt.split (tT t) " " = [("tie" : Str), num t.1, num t.2.1, t.2.2.1, num t.2.2.2] := by
  have e : tT t = Txt.join " " [("tie" : Str), num t.1, num t.2.1, t.2.2.1, num t.2.2.2] := by
    unfold tT
    rw [join_cons " " "tie", show ("tie " : Str) = "tie" ++ " " from by decide +kernel]
  rw [e]
  refine TL.split_join (s := 32) (S := []) (by decide +kernel) (by decide +kernel) (by simp) fun x hx => ?_
  simp only [List.mem_cons, List.not_mem_nil, or_false] at hx
  rcases hx with rfl | rfl | rfl | rfl | rfl
  · decide +kernel
  · exact num_free h.a.1 (by decide)
  · exact num_free h.b.1 (by decide)
  · exact low_free h.c.low (by decide)
  · exact num_free h.d.1 (by decide)
theorem free_app {s : Nat} {x y : Str} (h : s ∉ ch x) (h' : s ∉ ch y) : s ∉ ch (x ++ y) := by
  rw [ch_app, List.mem_append]; exact fun z => z.elim h h'
theorem split_written {ps : List Int} {ts : List Tie} (h : NOk ps ts) (hne : lines ps ts ≠ []) : Txt.split (written ps ts) "\n" = lines ps ts := by
  refine TL.split_join (s := 10) (S := []) (by decide +kernel) (by decide +kernel) hne fun x hx => ?_
  rcases List.mem_append.mp hx with z | z
  · obtain ⟨p, hp, rfl⟩ := List.mem_map.mp z
    exact free_app (by decide +kernel) (num_free (h.p p hp).1 (by decide))
  · obtain ⟨t, ht, rfl⟩ := List.mem_map.mp z
    have ht := h.t t ht
    rw [tT_eq]
    have e : (10 : Nat) ∉ ch (Str.empty : Str) := by decide +kernel
    have e1 : (10 : Nat) ∉ ch ("tie " : Str) := by decide +kernel
    have e2 : (10 : Nat) ∉ ch (" " : Str) := by decide +kernel
    have a1 := num_free ht.a.1 (s := 10) (by decide)
    have a2 := num_free ht.b.1 (s := 10) (by decide)
    have a3 := low_free ht.c.low (s := 10) (by decide)
    have a4 := num_free ht.d.1 (s := 10) (by decide)
    exact free_app (free_app (free_app (free_app (free_app (free_app (free_app (free_app e e1) a1) e2) a2) e2) a3) e2) a4
end LW

set_option maxHeartbeats 4000000
namespace LW
open PySem PySem.Spec L2 DL
open PyProof.Rows hiding St

theorem read_tie_ok {t : Tie} (h : TOk' t) {m : MS} : sem_read_tie [.lst [.str "tie", .str (num t.1), .str (num t.2.1), .str t.2.2.1, .str (num t.2.2.2)]] m = .ok (tieD t) m := by
  have e1 := read_whole_ok h.a.1 h.a.2 (m := m)
  have e2 := read_whole_ok h.b.1 h.b.2 (m := m)
  have e3 := read_whole_ok h.d.1 h.d.2 (m := m)
  have e4 := is_name_ok (x := t.2.2.1) (ms := m) (by have := h.c.le; omega)
  rw [isN_nm h.c] at e4
  generalize num t.1 = x1 at e1 ⊢
  generalize num t.2.1 = x2 at e2 ⊢
  generalize num t.2.2.2 = x3 at e3 ⊢
  simp -implicitDefEqProofs [sem_read_tie_eq, B_read_tie, e1, e2, e3, e4, tieD]
theorem join_bound (s : Str) : ∀ l : List Str, (Txt.join s l).length ≤ (l.map (·.length)).sum + l.length * s.length
  | [] => by
    have e : Txt.join s [] = Str.join s [] := StrLaws.glued_eq_join s []
    rw [e]
    exact Nat.zero_le _
  | [x] => by
    rw [join_one]
    simp
  | x :: y :: l => by
    have ih := join_bound s (y :: l)
    rw [join_cons, app_len, app_len]
    simp only [List.map_cons, List.sum_cons, List.length_cons] at ih ⊢
    rw [Nat.add_mul (l.length + 1) 1, Nat.one_mul]
    omega
theorem join_pos (s : Str) {l : List Str} (h : ∀ x ∈ l, 1 ≤ x.length) (hne : l ≠ []) : 1 ≤ (Txt.join s l).length := by
  match l, hne with
  | [x], _ => rw [join_one]; exact h x (by simp)
  | x :: y :: l, _ =>
    rw [join_cons, app_len, app_len]
    have := h x (by simp)
    omega
theorem line_pos {ps : List Int} {ts : List Tie} : ∀ x ∈ lines ps ts, 1 ≤ x.length := fun x hx => by
  rcases List.mem_append.mp hx with z | z
  · obtain ⟨p, hp, rfl⟩ := List.mem_map.mp z
    unfold pT
    rw [app_len, l_place]; omega
  · obtain ⟨t, ht, rfl⟩ := List.mem_map.mp z
    unfold tT
    rw [app_len, l_tie]; omega
theorem read_rows_ok {ps : List Int} {ts : List Tie} (h : NOk ps ts) (m : MS) : sem_read_rows [.str (written ps ts)] m = .ok (.tup [.ptr m.length, .ptr (m.length + 1)]) (m ++ [.lst (ps.map .int), .lst (ts.map tieD)]) := by
  suffices z : OK (sem_read_rows [.str (written ps ts)] m) fun x m2 => x = .tup [.ptr m.length, .ptr (m.length + 1)] ∧ m2 = m ++ [.lst (ps.map .int), .lst (ts.map tieD)] by
    obtain ⟨_, m2, e, rfl, rfl⟩ := z
    exact e
  have f1 : ps.length ≤ 1000 := h.few.1
  have f2 : ts.length ≤ 1000 := h.few.2
  have hb : (written ps ts).length + 2 ≤ 16777216 := by
    have z := join_bound "\n" (lines ps ts)
    have s1 := sum_le (lines ps ts) 60 (fun x hx => by
      rcases List.mem_append.mp hx with z | z
      · obtain ⟨p, hp, rfl⟩ := List.mem_map.mp z; exact pT_len (h.p p hp).1 (h.p p hp).2
      · obtain ⟨t, ht, rfl⟩ := List.mem_map.mp z; exact tT_len (h.t t ht))
    have h2 : (lines ps ts).length ≤ 2000 := by unfold lines; simp; omega
    rw [l_nl] at z
    unfold written
    omega
  have src : ∀ n : MS, iteE (truT (varE 0)) (splitE (varE 0) (cE (.str "\n"))) (appE nilA mkLst) [some (.str (written ps ts)), some (.ptr m.length), some (.ptr (m.length + 1)), none, none] n = .ok (.lst ((lines ps ts).map .str)) n := fun n => by
    have hb1 : (written ps ts).length ≤ 16777216 := by omega
    have hnl : (("\n" : Str).length == 0) = false := by rw [l_nl]; rfl
    by_cases hne : lines ps ts = []
    · have e : (written ps ts).length = 0 := by unfold written; rw [hne]; decide +kernel
      have e2 : ((lines ps ts).map D.str) = [] := by rw [hne]; rfl
      rw [e2]
      generalize written ps ts = X at hb1 e
      simp -implicitDefEqProofs [hb1, e]
    · have e := split_written h hne
      have p := join_pos "\n" (line_pos (ps := ps) (ts := ts)) hne
      have p' : ((written ps ts).length : Int) ≠ 0 := by unfold written; omega
      have p2 : (((written ps ts).length : Int) != 0) = true := by simpa using p'
      generalize written ps ts = X at hb1 hb e p2
      rw [← e]
      generalize hL : (Txt.split X "\n").map DL.D.str = L
      have hL' : (Txt.split X (Str.ofString "\n")).map DL.D.str = L := hL
      have hb2 : X.length + 2 ≤ 16777216 := hb
      simp -implicitDefEqProofs only [iteE, truT, varE, cE, splitE, bind_ok, List.getElem?_cons_zero]
      simp -implicitDefEqProofs [hb1, p2, hnl, hb2, hL']
  rw [sem_read_rows_eq]
  refine run_ok ?_
  unfold B_read_rows
  refine seq_nx (env' := [some (.str (written ps ts)), some (.ptr m.length), none, none, none]) (ms1 := m ++ [.lst []]) (by
    generalize written ps ts = X
    simp -implicitDefEqProofs) ?_
  refine seq_nx (env' := [some (.str (written ps ts)), some (.ptr m.length), some (.ptr (m.length + 1)), none, none]) (ms1 := m ++ [.lst [], .lst []]) (by
    generalize written ps ts = X
    simp -implicitDefEqProofs) ?_
  generalize hE : iteE (truT (varE 0)) (splitE (varE 0) (cE (.str "\n"))) (appE nilA mkLst) = E at src ⊢
  have hll : (lines ps ts).length = ps.length + ts.length := by unfold lines; simp
  generalize written ps ts = X at src ⊢
  refine seq_ok (P := fun env m' => ∃ e3 e4, env = [some (.str X), some (.ptr m.length), some (.ptr (m.length + 1)), e3, e4] ∧ m' = m ++ [.lst (ps.map .int), .lst (ts.map tieD)]) ?_ ?_
  · refine for_ok (P := fun s m' => s.nx = (fun i _ => nxOf (some ((lines ps ts).map .str)) i) ∧ s.n = (lines ps ts).length + 1 ∧ m' = m ++ [.lst [], .lst []]) (by
      have hl2 : ((lines ps ts).map D.str).length = (lines ps ts).length := by simp
      generalize (lines ps ts).map DL.D.str = L at src hl2
      simp -implicitDefEqProofs [src, hl2]) ?_
    rintro s' m' ⟨hs1, hs2, rfl⟩
    rw [hs1, hs2]
    refine (for_inv ((lines ps ts).map .str) (fun i env m' => ∃ e3 e4, env = [some (.str X), some (.ptr m.length), some (.ptr (m.length + 1)), e3, e4] ∧ m' = m ++ [.lst ((ps.take i).map .int), .lst ((ts.take (i - ps.length)).map tieD)]) (fun _ _ => False) (fun _ _ => False) (fun i env m' _ _ => rfl) (fun i x env m' hx hI => turn_name ?_) ((lines ps ts).length + 1) 0 _ _ (by simp) (by simp) ⟨none, none, rfl, by simp⟩).mono ?_
    · obtain ⟨e3, e4, rfl, rfl⟩ := hI
      have g0 : ∀ (p q : Cell), (m ++ [p, q])[m.length + 1]? = some q := fun p q => by rw [List.getElem?_append_right (by omega)]; simp
      have g1 : ∀ (p q : Cell), (m ++ [p, q])[m.length]? = some p := fun p q => by simp
      have g2 : ∀ (p q r : Cell), (m ++ [p, q]).set m.length r = m ++ [r, q] := fun p q r => by simp
      have g3 : ∀ (p q r : Cell), (m ++ [p, q]).set (m.length + 1) r = m ++ [p, r] := fun p q r => by rw [List.set_append_right _ _ (by omega)]; simp
      rw [List.getElem?_map] at hx
      by_cases hi : i < ps.length
      · have e1 : (lines ps ts)[i]? = some (pT ps[i]) := by
          unfold lines
          rw [List.getElem?_append_left (by simpa using hi), List.getElem?_map, List.getElem?_eq_getElem hi]; rfl
        rw [e1] at hx
        cases hx
        obtain ⟨p0, p1⟩ := h.p ps[i] (List.getElem_mem _)
        have sp := split_place p0
        have rw1 := read_whole_ok p0 p1 (m := m ++ [.lst ((ps.take i).map .int), .lst []])
        have pl := pT_len p0 p1
        have tk : (ps.take (i + 1)).map D.int = (ps.take i).map D.int ++ [.int ps[i]] := by rw [List.take_add_one, List.getElem?_eq_getElem hi, List.map_append]; rfl
        have z0 : i - ps.length = 0 := by omega
        have z1 : i + 1 - ps.length = 0 := by omega
        have ll : ((ps.take i).map D.int).length < 16777216 := by simp; omega
        have pl2 : (pT ps[i]).length ≤ 16777214 := by omega
        have sp' : Txt.split (pT ps[i]) (Str.ofString " ") = [("place" : Str), num ps[i]] := sp
        have hsl : ¬ (" " : Str).length = 0 := by rw [l_sp]; omega
        rw [z0, z1]
        refine OK_of (a := (Fl.nx, [some (.str X), some (.ptr m.length), some (.ptr (m.length + 1)), some (.str (pT ps[i])), some (.lst [.str "place", .str (num ps[i])])])) (m := m ++ [.lst ((ps.take (i + 1)).map .int), .lst []]) ?_ ⟨_, _, rfl, rfl⟩
        rw [tk]
        generalize (ps.take i).map D.int = L at rw1 ll ⊢
        generalize num ps[i] = Y at rw1 sp' ⊢
        generalize pT ps[i] = Z at sp' pl2 ⊢
        generalize ps[i] = W at rw1 ⊢
        simp -implicitDefEqProofs [sp', pl2, hsl, g0, g1, g2, rw1, ll]
      · have hj : i - ps.length < ts.length := by
          have : i < (lines ps ts).length := by
            rcases Nat.lt_or_ge i (lines ps ts).length with z | z
            · exact z
            · rw [List.getElem?_eq_none z] at hx; cases hx
          omega
        have e1 : (lines ps ts)[i]? = some (tT ts[i - ps.length]) := by
          unfold lines
          rw [List.getElem?_append_right (by simpa using (by omega : ps.length ≤ i)), List.getElem?_map, List.length_map, List.getElem?_eq_getElem hj]; rfl
        rw [e1] at hx
        cases hx
        have ht := h.t ts[i - ps.length] (List.getElem_mem _)
        have sp := split_tie ht
        have rt := read_tie_ok ht (m := m ++ [.lst (ps.map .int), .lst ((ts.take (i - ps.length)).map tieD)])
        have pl := tT_len ht
        have z1 : i + 1 - ps.length = (i - ps.length) + 1 := by omega
        have tk : (ts.take (i - ps.length + 1)).map tieD = (ts.take (i - ps.length)).map tieD ++ [tieD ts[i - ps.length]] := by rw [List.take_add_one, List.getElem?_eq_getElem hj, List.map_append]; rfl
        have ta : ps.take i = ps := List.take_of_length_le (by omega)
        have tb : ps.take (i + 1) = ps := List.take_of_length_le (by omega)
        have ll : ((ts.take (i - ps.length)).map tieD).length < 16777216 := by simp; omega
        have pl2 : (tT ts[i - ps.length]).length ≤ 16777214 := by omega
        have sp' : Txt.split (tT ts[i - ps.length]) (Str.ofString " ") = [("tie" : Str), num ts[i - ps.length].1, num ts[i - ps.length].2.1, ts[i - ps.length].2.2.1, num ts[i - ps.length].2.2.2] := sp
        have hsl : ¬ (" " : Str).length = 0 := by rw [l_sp]; omega
        have hpt : (("tie" : Str) == ("place" : Str)) = false := by decide +kernel
        rw [z1, ta, tb]
        refine OK_of (a := (Fl.nx, [some (.str X), some (.ptr m.length), some (.ptr (m.length + 1)), some (.str (tT ts[i - ps.length])), some (.lst [.str "tie", .str (num ts[i - ps.length].1), .str (num ts[i - ps.length].2.1), .str ts[i - ps.length].2.2.1, .str (num ts[i - ps.length].2.2.2)])])) (m := m ++ [.lst (ps.map .int), .lst ((ts.take (i - ps.length + 1)).map tieD)]) ?_ ⟨_, _, rfl, rfl⟩
        rw [tk]
        generalize (ts.take (i - ps.length)).map tieD = L at rt ll ⊢
        generalize ps.map D.int = L0 at rt ⊢
        generalize tT ts[i - ps.length] = Z at sp' pl2 ⊢
        generalize tieD ts[i - ps.length] = U at rt ⊢
        generalize num ts[i - ps.length].1 = Y1 at rt sp' ⊢
        generalize num ts[i - ps.length].2.1 = Y2 at rt sp' ⊢
        generalize ts[i - ps.length].2.2.1 = Y3 at rt sp' ⊢
        generalize num ts[i - ps.length].2.2.2 = Y4 at rt sp' ⊢
        simp -implicitDefEqProofs [sp', pl2, hsl, hpt, g0, g1, g2, g3, rt, ll]
    · rintro ⟨fl, env'⟩ m' hh
      cases fl with
      | nx =>
        rcases hh with hh | hh
        · obtain ⟨e3, e4, h1, h2⟩ := hh
          refine ⟨rfl, e3, e4, h1, ?_⟩
          rw [h2]
          simp only [List.length_map, hll]
          rw [List.take_of_length_le (by omega), show ps.length + ts.length - ps.length = ts.length by omega, List.take_length]
        · exact hh.elim
      | brk => exact hh.elim
      | cont => exact hh.elim
      | ret d => exact hh.elim
  rintro env m' ⟨e3, e4, rfl, rfl⟩
  exact OK_of (a := (Fl.ret (.tup [.ptr m.length, .ptr (m.length + 1)]), [some (.str X), some (.ptr m.length), some (.ptr (m.length + 1)), e3, e4])) (m := m ++ [.lst (ps.map .int), .lst (ts.map tieD)]) (by
    generalize m ++ [Cell.lst (ps.map .int), .lst (ts.map tieD)] = M
    simp -implicitDefEqProofs) ⟨rfl, rfl⟩
end LW

set_option maxHeartbeats 4000000
namespace LW
open PySem PySem.Spec L2 DL
open PyProof.Rows hiding St

theorem dc_list2 {nx : Nat → MS → WOut} {step : D → MS → Res (Option (D × D))} {c : Nat} {ms : MS} (items : List D) (f : D → D × D) (kf : D → Key) (hnx : ∀ i fs, nx i (ms.set c (.dK fs)) = nxOf (some items) i) (hc : c < ms.length)
    (hs : ∀ d, d ∈ items → ∀ fs, step d (ms.set c (.dK fs)) = .ok (some (f d)) (ms.set c (.dK fs))) (hk : ∀ d, d ∈ items → keyOf (f d).1 = some (kf d)) :
    ∀ (n i : Nat) (fs : List (Key × D)), items.length - i < n → i ≤ items.length → fs.length + (items.length - i) < LIM →
      dcLoop nx step c n i (ms.set c (.dK fs)) = .ok () (ms.set c (.dK ((items.drop i).foldl (fun fs d => putD fs (kf d) (f d).2) fs)))
  | 0, i, fs, h, _, _ => absurd h (Nat.not_lt_zero _)
  | n + 1, i, fs, h, hi, hl => by
    unfold dcLoop
    rw [hnx]
    by_cases he : i < items.length
    · have e1 : nxOf (some items) i = .item items[i] := by
        unfold nxOf
        simp [he]
      rw [e1]
      simp only []
      rw [hs _ (List.getElem_mem he)]
      have e2 : cellK (ms.set c (.dK fs)) (.ptr c) = some (c, fs) := by
        unfold cellK
        simp [List.getElem?_set_self hc]
      simp only [bind_ok]
      rw [hk _ (List.getElem_mem he), e2]
      simp only []
      rw [if_pos (by omega), List.set_set, dc_list2 items f kf hnx hc hs hk n (i + 1) _ (by omega) (by omega) (by have := put_len fs (kf items[i]) (f items[i]).2; omega)]
      rw [List.drop_eq_getElem_cons he, List.foldl_cons]
    · have e1 : nxOf (some items) i = .stop := by
        unfold nxOf
        simp [he]
      rw [e1]
      simp only []
      rw [List.drop_eq_nil_of_le (by omega)]
      rfl
/-- a list that stays while one cell changes -/
def IsLw (ms : MS) (w : Nat) (d : D) (X : List D) : Prop := ∀ m' : MS, (∀ n, n < ms.length → n ≠ w → m'[n]? = ms[n]?) → rlOf m' d = some X
theorem IsLw.ptr {ms : MS} {w p : Nat} {X : List D} (h : ms[p]? = some (.lst X)) (hne : p ≠ w) : IsLw ms w (.ptr p) X := fun m' q => by
  simp only [rlOf, q p (List.getElem?_eq_some_iff.mp h).1 hne, h]
section
variable {ms : MS} {w a b c : Nat} {W : Web}
/-- all that stands is put back -/
theorem put_back_l (h : WebAt ms w a b c W) {s : Stand} {A B : D} (k : StOk s) (hA : IsLw ms w A (s.1.map .int)) (hB : IsLw ms w B (s.2.1.map tieD)) :
    ∃ ms', sem_Web_put_back [.ptr w, .tup [A, B, .int s.2.2.1, .int s.2.2.2]] ms = .ok .non ms' ∧ WebAt ms' w ms.length (ms.length + 1) c { W with ps := s.1, ts := s.2.1, np := s.2.2.1, nt := s.2.2.2 } ∧ Fr ms ms' [w] := by
  obtain ⟨ps, ts, np, nt⟩ := s
  have f1 : ps.length ≤ 1000 := k.few.1
  have f2 : ts.length ≤ 1000 := k.few.2
  have hw := lt_of h.o
  have hc := lt_of h.m
  obtain ⟨m1, hm1⟩ : ∃ m1 : MS, m1 = (ms.set w (.obj "Web" (webF { W with np := np } a b c))).set w (.obj "Web" (webF { W with np := np, nt := nt } a b c)) := ⟨_, rfl⟩
  have l1 : m1.length = ms.length := by rw [hm1]; simp
  have o1 : m1[w]? = some (.obj "Web" (webF { W with np := np, nt := nt } a b c)) := by rw [hm1]; exact List.getElem?_set_self (by rw [List.length_set]; exact hw)
  have hs1 := set_at (ms := ms) w hw
  have frA0 : ∀ n, n < ms.length → n ≠ w → m1[n]? = ms[n]? := fun n hn hne => by rw [hm1, List.getElem?_set_ne (Ne.symm hne), List.getElem?_set_ne (Ne.symm hne)]
  have frA : ∀ fs : List (Key × D), ∀ n, n < ms.length → n ≠ w → ((m1 ++ [Cell.dK []]).set m1.length (.dK fs))[n]? = ms[n]? := fun fs n hn hne => by
    rw [List.getElem?_set_ne (by omega), List.getElem?_append_left (by omega)]; exact frA0 n hn hne
  -- the places
  have e1 : dcLoop (fun i m => nxOf (rlOf m A) i) (stepOfD (nameT 4) yesT (varE 4) (cE (.bl true)) [some (.ptr w), some (.tup [A, B, .int np, .int nt]), some A, some B, none, none, none, none, none]) m1.length (ps.length + 1) 0 (m1 ++ [.dK []]) = .ok () (m1 ++ [.dK (plK ps)]) := by
    have z := dc_list2 (nx := fun i m => nxOf (rlOf m A) i) (step := stepOfD (nameT 4) yesT (varE 4) (cE (.bl true)) [some (.ptr w), some (.tup [A, B, .int np, .int nt]), some A, some B, none, none, none, none, none]) (c := m1.length) (ms := m1 ++ [.dK []]) (ps.map D.int) (fun d => (d, .bl true)) intK (fun i fs => by simp only [hA _ (frA fs)]) (by simp)
      (fun d hd fs => by simp -implicitDefEqProofs) (fun d hd => by obtain ⟨i, _, rfl⟩ := List.mem_map.mp hd; rfl) (ps.length + 1) 0 [] (by simp) (by simp) (by show _ < 16777216; simp; omega)
    have q : (m1 ++ [Cell.dK []]).set m1.length (.dK []) = m1 ++ [.dK []] := by simp
    rw [q] at z
    rw [z, List.drop_zero, List.foldl_map]
    have y : ps.foldl (fun fs p => putD fs (intK (.int p)) (.bl true)) [] = plK ps := by
      exact (fold_put ps (fun p => p) (fun _ => D.bl true) [] (fun _ _ => rfl) (by rw [List.map_id']; exact k.pr)).trans (List.nil_append _)
    have y' : (m1 ++ [Cell.dK []]).set m1.length (.dK (plK ps)) = m1 ++ [.dK (plK ps)] := by simp
    rw [← y']
    exact congrArg _ (congrArg _ (congrArg _ y))
  obtain ⟨m2, hm2⟩ : ∃ m2 : MS, m2 = (m1 ++ [Cell.dK (plK ps)]).set w (.obj "Web" (webF { W with np := np, nt := nt } m1.length b c)) := ⟨_, rfl⟩
  have l2 : m2.length = m1.length + 1 := by rw [hm2]; simp
  have o1' : (m1 ++ [Cell.dK (plK ps)])[w]? = some (.obj "Web" (webF { W with np := np, nt := nt } a b c)) := by rw [List.getElem?_append_left (by omega)]; exact o1
  have o2 : m2[w]? = some (.obj "Web" (webF { W with np := np, nt := nt } m1.length b c)) := by rw [hm2]; exact List.getElem?_set_self (by simp; omega)
  have frB0 : ∀ n, n < ms.length → n ≠ w → m2[n]? = ms[n]? := fun n hn hne => by rw [hm2, List.getElem?_set_ne (Ne.symm hne), List.getElem?_append_left (by omega)]; exact frA0 n hn hne
  have frB : ∀ fs : List (Key × D), ∀ n, n < ms.length → n ≠ w → ((m2 ++ [Cell.dK []]).set m2.length (.dK fs))[n]? = ms[n]? := fun fs n hn hne => by
    rw [List.getElem?_set_ne (by omega), List.getElem?_append_left (by omega)]; exact frB0 n hn hne
  -- the ties
  have e2 : dcLoop (fun i m => nxOf (rlOf m B) i) (stepOfD (tupT 4 (consT (nameT 5) (consT (nameT 6) (consT (nameT 7) (consT (nameT 8) nilT))))) yesT (varE 5) (appE (consA (varE 6) (consA (varE 7) (consA (varE 8) nilA))) mkTup) [some (.ptr w), some (.tup [A, B, .int np, .int nt]), some A, some B, none, none, none, none, none]) m2.length (ts.length + 1) 0 (m2 ++ [.dK []]) = .ok () (m2 ++ [.dK (tiK ts)]) := by
    have z := dc_list2 (nx := fun i m => nxOf (rlOf m B) i) (step := stepOfD (tupT 4 (consT (nameT 5) (consT (nameT 6) (consT (nameT 7) (consT (nameT 8) nilT))))) yesT (varE 5) (appE (consA (varE 6) (consA (varE 7) (consA (varE 8) nilA))) mkTup) [some (.ptr w), some (.tup [A, B, .int np, .int nt]), some A, some B, none, none, none, none, none]) (c := m2.length) (ms := m2 ++ [.dK []]) (ts.map tieD) tupF tupK (fun i fs => by simp only [hB _ (frB fs)]) (by simp)
      (fun d hd fs => by obtain ⟨t, _, rfl⟩ := List.mem_map.mp hd; simp -implicitDefEqProofs [tieD, tupF]) (fun d hd => by obtain ⟨t, _, rfl⟩ := List.mem_map.mp hd; rfl) (ts.length + 1) 0 [] (by simp) (by simp) (by show _ < 16777216; simp; omega)
    have q : (m2 ++ [Cell.dK []]).set m2.length (.dK []) = m2 ++ [.dK []] := by simp
    rw [q] at z
    rw [z, List.drop_zero, List.foldl_map]
    have y : ts.foldl (fun fs t => putD fs (tupK (tieD t)) (tupF (tieD t)).2) [] = tiK ts := by
      exact (fold_put ts (fun t => t.1) endD [] (fun _ _ => rfl) k.tr).trans (List.nil_append _)
    have y' : (m2 ++ [Cell.dK []]).set m2.length (.dK (tiK ts)) = m2 ++ [.dK (tiK ts)] := by simp
    rw [← y']
    exact congrArg _ (congrArg _ (congrArg _ y))
  have o2' : (m2 ++ [Cell.dK (tiK ts)])[w]? = some (.obj "Web" (webF { W with np := np, nt := nt } m1.length b c)) := by rw [List.getElem?_append_left (by omega)]; exact o2
  refine ⟨(m2 ++ [Cell.dK (tiK ts)]).set w (.obj "Web" (webF { W with np := np, nt := nt } m1.length m2.length c)), ?_, ?_, ?_⟩
  · have hm1' : (ms.set w (.obj "Web" (webF { W with np := np } a b c))).set w (.obj "Web" (webF { W with np := np, nt := nt } a b c)) = m1 := hm1.symm
    have qA := hA m1 frA0
    have qB := hB m2 frB0
    have la : (ps.map D.int).length = ps.length := by simp
    have lb : (ts.map tieD).length = ts.length := by simp
    simp only [rlOf] at qA qB e1 e2
    generalize ps.map D.int = P at qA la
    generalize ts.map tieD = T at qB lb
    simp -implicitDefEqProofs [qA, qB, la, lb, sem_Web_put_back_eq, B_Web_put_back, standD, h.o, hs1, hm1', o1, e1, o1', ← hm2, o2, e2, o2']
  · rw [l2, l1]
    refine ⟨?_, ?_, ?_, ?_, by omega, by omega, h.wc, by omega, by omega, by omega⟩
    · exact List.getElem?_set_self (by simp; omega)
    · rw [List.getElem?_set_ne (by omega), List.getElem?_append_left (by omega), hm2, List.getElem?_set_ne (by omega), ← l1]
      simp
    · rw [List.getElem?_set_ne (by omega), ← l1, ← l2]
      simp
    · rw [List.getElem?_set_ne h.wc, List.getElem?_append_left (by omega), hm2, List.getElem?_set_ne h.wc, List.getElem?_append_left (by omega), hm1, List.getElem?_set_ne h.wc, List.getElem?_set_ne h.wc]
      exact h.m
  · refine ⟨by simp; omega, fun n hn hL => ?_⟩
    have hne : w ≠ n := fun e => hL (by simp [e])
    rw [List.getElem?_set_ne hne, List.getElem?_append_left (by omega), hm2, List.getElem?_set_ne hne, List.getElem?_append_left (by omega), hm1, List.getElem?_set_ne hne, List.getElem?_set_ne hne]
end
end LW

set_option maxHeartbeats 4000000
namespace LW
open PySem PySem.Spec L2 DL
open PyProof.Rows hiding St

def nxt (l : List Int) : Int := maxO l (-1) + 1
theorem nxt_above {l : List Int} : ∀ p ∈ l, p < nxt l := fun p hp => by
  unfold nxt maxO
  cases e : l.max? with
  | none => rw [List.max?_eq_none_iff] at e; rw [e] at hp; cases hp
  | some m =>
    have := (List.max?_eq_some_iff.mp e).2 p hp
    show p < m + 1
    omega
theorem nxt_nn {l : List Int} (h : ∀ p ∈ l, 0 ≤ p) : 0 ≤ nxt l := by
  unfold nxt maxO
  cases e : l.max? with
  | none => decide
  | some m =>
    have := h m (List.max?_eq_some_iff.mp e).1
    show 0 ≤ m + 1
    omega
/-- a web as the law draws it -/
structure Bd (ps : List Int) (ts : List Tie) : Prop where
  n : NOk ps ts
  pr : ps.Pairwise (· < ·)
  tr : (ts.map (·.1)).Pairwise (· < ·)
  te : ∀ t ∈ ts, t.2.1 ∈ ps ∧ t.2.2.2 ∈ ps
  lp : ps.length ≤ 60
  lt : ts.length ≤ 200
def WR (ps : List Int) (ts : List Tie) : Web := ⟨60, 200, ps, ts, nxt ps, nxt (ts.map (·.1)), []⟩
theorem Bd.ids {ps : List Int} {ts : List Tie} (h : Bd ps ts) : ∀ i ∈ ts.map (·.1), 0 ≤ i := fun i hi => by
  obtain ⟨t, ht, rfl⟩ := List.mem_map.mp hi
  exact (h.n.t t ht).a.1
theorem Bd.st {ps : List Int} {ts : List Tie} (h : Bd ps ts) : StOk (WR ps ts).stand where
  pr := h.pr
  pl := fun p hp => ⟨(h.n.p p hp).1, nxt_above p hp⟩
  tr := h.tr
  tl := fun t ht => ⟨(h.n.t t ht).a.1, nxt_above t.1 (List.mem_map.mpr ⟨t, ht, rfl⟩)⟩
  te := h.te
  n0 := nxt_nn fun p hp => (h.n.p p hp).1
  t0 := nxt_nn h.ids
  few := h.n.few
theorem ints_ok1 (k : Nat) (ps : List Int) : okDs k (ps.map D.int) = true := by
  rw [okDs_iff]
  intro d hd
  obtain ⟨i, _, rfl⟩ := List.mem_map.mp hd
  cases k <;> rfl
theorem IsL.rd {m : MS} {d : D} {X : List D} (h : IsL m d X) : rdD m d = .lst X := by
  rcases h with rfl | ⟨p, rfl, h⟩
  · rfl
  · simp only [rdD, h]
theorem ints_of' (ns : List Int) : intsOf (ns.map D.int) = some ns := by
  induction ns with
  | nil => rfl
  | cons n ns ih => simp only [List.map_cons, intsOf, ih]; rfl
theorem rises_ok {m : MS} {d : D} {ns : List Int} (hd : IsL m d (ns.map .int)) (hr : ns.Pairwise (· < ·)) (hl : ns.length ≤ 1000) : sem_rises [d] m = .ok (.bl true) m := by
  have e1 : rset ns = ns := (rset_eq hr fun _ => Iff.rfl).symm
  have q := (eqG_self (a := d) (b := .lst (ns.map .int)) (ms := m) (k := 1) (by rw [hd.rd]; rfl) (by rw [hd.rd]; exact ints_ok1 0 ns) (by decide)).1
  have e2 := ints_of' ns
  have e3 : ssetQ [d] m = .ok (.lst (ns.map .int)) m := by
    simp only [ssetQ, hd.rl, Option.bind_some, e2, e1]
    rw [if_pos ⟨hl, hl⟩]
  rw [sem_rises_eq]
  unfold B_rises
  rcases hd with rfl | ⟨p, rfl, h⟩
  · generalize ns.map DL.D.int = X at q e3 ⊢
    generalize ssetQ = S at e3 ⊢
    simp -implicitDefEqProofs [e3, q]
  · generalize ns.map DL.D.int = X at q e3 ⊢
    generalize ssetQ = S at e3 ⊢
    simp -implicitDefEqProofs [e3, q]
theorem maxd_ok {env : DL.Env} {m : MS} {f : DL.Env → MS → Res D} {d : D} {ns : List Int} (hf : f env m = .ok d m) (hd : IsL m d (ns.map .int)) : binE (maxdE f (unE (cE (.int 1)) negD)) (cE (.int 1)) addD env m = .ok (.int (nxt ns)) m := by
  have e2 := ints_of' ns
  have e : maxdE f (unE (cE (.int 1)) negD) env m = .ok (.int (maxO ns (-1))) m := by
    unfold maxdE
    rw [hf]
    have g : unE (cE (.int 1)) negD env m = .ok (.int (-1)) m := by simp -implicitDefEqProofs
    simp only [bind_ok, g, hd.rl, Option.bind_some, e2]
  generalize maxdE f (unE (cE (.int 1)) negD) = S at e ⊢
  unfold nxt
  simp -implicitDefEqProofs [e]
theorem next_ok {m : MS} {d : D} {ns : List Int} (hd : IsL m d (ns.map .int)) : sem_next_number [d] m = .ok (.int (nxt ns)) m := by
  have e := maxd_ok (env := [some d]) (f := varE 0) rfl hd
  rw [sem_next_number_eq]
  unfold B_next_number
  generalize binE (maxdE (varE 0) (unE (cE (.int 1)) negD)) (cE (.int 1)) addD = S at e ⊢
  simp -implicitDefEqProofs [e]
theorem has_int (p : Int) (l : List Int) : hasD (.int p) (l.map D.int) = decide (p ∈ l) := by
  induction l with
  | nil => rfl
  | cons x l ih =>
    unfold hasD at ih ⊢
    rw [List.map_cons, List.any_cons, ih]
    by_cases q : x = p
    · simp [flV, eqV, q]
    · simp [flV, eqV, q, Ne.symm q, fun e : p = x => q e.symm]
theorem flat_int (l : List Int) : (l.map D.int).all flatD = true := by
  induction l with
  | nil => rfl
  | cons x l ih => rw [List.map_cons, List.all_cons, ih]; rfl
theorem flat_int' (l : List Int) : (∀ x, x ∈ l.map D.int → flatD x = true) = True := eq_true (List.all_eq_true.mp (flat_int l))
theorem read_web_ok {ps : List Int} {ts : List Tie} (h : Bd ps ts) (m : MS) : ∃ m' w a b c, sem_read_web [.str (written ps ts)] m = .ok (.ptr w) m' ∧ WebAt m' w a b c (WR ps ts) ∧ Fr m m' [] ∧ m.length ≤ w ∧ m.length ≤ a ∧ m.length ≤ b ∧ m.length ≤ c := by
  have e0 := read_rows_ok h.n m
  have f1 : ps.length ≤ 1000 := h.n.few.1
  have f2 : ts.length ≤ 1000 := h.n.few.2
  have lp := h.lp
  have lt := h.lt
  obtain ⟨m1, hm1⟩ : ∃ m1 : MS, m1 = m ++ [.lst (ps.map .int), .lst (ts.map tieD)] := ⟨_, rfl⟩
  rw [← hm1] at e0
  have l1 : m1.length = m.length + 2 := by rw [hm1]; simp
  have gP : m1[m.length]? = some (.lst (ps.map .int)) := by rw [hm1]; simp
  have gT : m1[m.length + 1]? = some (.lst (ts.map tieD)) := by rw [hm1, List.getElem?_append_right (by omega)]; simp
  obtain ⟨m2, e2, w2, fr2⟩ := init_ok (ms := m1) 60 200
  have gP2 : m2[m.length]? = some (.lst (ps.map .int)) := by rw [fr2.at_ _ (by omega) (by simp)]; exact gP
  have gT2 : m2[m.length + 1]? = some (.lst (ts.map tieD)) := by rw [fr2.at_ _ (by omega) (by simp)]; exact gT
  obtain ⟨m3, e3, w3, fr3⟩ := put_back_l (s := (WR ps ts).stand) w2 h.st (IsLw.ptr gP2 (by omega)) (IsLw.ptr gT2 (by omega))
  have l2 := fr2.len
  refine ⟨m3, m1.length, m2.length, m2.length + 1, m1.length + 3, ?_, w3, ⟨by have := fr3.len; omega, fun n hn _ => ?_⟩, by omega, by omega, by omega, by omega⟩
  · have r1 := rises_ok (d := .ptr m.length) (m := m1) (.inr ⟨_, rfl, gP⟩) h.pr f1
    have r2 := rises_ok (d := .lst ((ts.map (·.1)).map .int)) (m := m1) (.inl rfl) h.tr (by simp; omega)
    have n1 := next_ok (d := .ptr m.length) (m := m2) (ns := ps) (.inr ⟨_, rfl, gP2⟩)
    have n2 := next_ok (d := .lst ((ts.map (·.1)).map .int)) (m := m2) (.inl rfl)
    have c1 : ∀ {e3 e4 e5 e6 e7 : Option D}, compE endL (lstSrc (varE 2)) (nameT 8) yesT (binE (varE 8) (cE (.int 0)) idxD) [8] [some (.str (written ps ts)), some (.ptr m.length), some (.ptr (m.length + 1)), e3, e4, e5, e6, e7, none] m1 = .ok (.lst ((ts.map (·.1)).map .int)) m1 := fun {e3 e4 e5 e6 e7} => by
      have z := comp_l (mk := endL) (f := varE 2) (t := yesT) (T := nameT 8) (vs := [8]) (e := (binE (varE 8) (cE (.int 0)) idxD)) (env := [some (.str (written ps ts)), some (.ptr m.length), some (.ptr (m.length + 1)), e3, e4, e5, e6, e7, none]) (ms := m1) ts tieD (fun t => .int t.1) rfl (.inr ⟨_, rfl, gT⟩) (by omega) (fun t ht => by simp -implicitDefEqProofs [tieD])
      rw [List.map_map]
      exact z
    suffices z : OK (sem_read_web [.str (written ps ts)] m) fun x m' => x = .ptr m1.length ∧ m' = m3 by
      obtain ⟨_, _, e, rfl, rfl⟩ := z
      exact e
    rw [sem_read_web_eq]
    refine run_ok ?_
    unfold B_read_web
    generalize written ps ts = X at e0 c1 ⊢
    refine seq_nx (env' := [some (.str X), some (.ptr m.length), some (.ptr (m.length + 1)), none, none, none, none, none, none]) (ms1 := m1) (by simp -implicitDefEqProofs [e0]) ?_
    have hL : ((ts.map (·.1)).map D.int).length = ts.length := by simp
    generalize hI : (ts.map (·.1)).map D.int = I at r2 n2 c1 hL
    refine seq_nx (env' := [some (.str X), some (.ptr m.length), some (.ptr (m.length + 1)), some (.lst I), none, none, none, none, none]) (ms1 := m1) (by
      generalize compE endL (lstSrc (varE 2)) (nameT 8) yesT (binE (varE 8) (cE (.int 0)) idxD) [8] = C at c1 ⊢
      simp -implicitDefEqProofs [c1]) ?_
    have hpl : (ps.map D.int).length = ps.length := by simp
    have htl : (ts.map tieD).length = ts.length := by simp
    have b1 : ¬ ((60 : Int) < (ps.length : Int)) := by omega
    have b2 : ¬ ((200 : Int) < (ts.length : Int)) := by omega
    have b3 : ps.length ≤ 16777216 := by omega
    have b4 : ts.length ≤ 16777216 := by omega
    refine seq_nx (env' := [some (.str X), some (.ptr m.length), some (.ptr (m.length + 1)), some (.lst I), none, none, none, none, none]) (ms1 := m1) (by
      generalize ps.map D.int = P at gP hpl
      generalize ts.map tieD = T at gT htl
      simp -implicitDefEqProofs [gP, gT, hpl, htl, c_MOST_PLACES, c_MOST_TIES, b1, b2, b3, b4]) ?_
    refine seq_nx (env' := [some (.str X), some (.ptr m.length), some (.ptr (m.length + 1)), some (.lst I), none, none, none, none, none]) (ms1 := m1) (by simp -implicitDefEqProofs [r1, r2]) ?_
    refine seq_ok (P := fun env m' => ∃ e4 e5 e6, env = [some (.str X), some (.ptr m.length), some (.ptr (m.length + 1)), some (.lst I), e4, e5, e6, none, none] ∧ m' = m1) ?_ ?_
    · refine for_ok (P := fun s m' => s.nx = (fun i m => nxOf (rlOf m (.ptr (m1.length - 1))) i) ∧ s.n = ts.length + 1 ∧ m' = m1) (by
        have e : m1.length - 1 = m.length + 1 := by omega
        rw [e]
        generalize ts.map tieD = T at gT htl
        simp -implicitDefEqProofs [gT, htl]) ?_
      rintro s' m' ⟨hs1, hs2, rfl⟩
      rw [hs1, hs2]
      have e : m'.length - 1 = m.length + 1 := by omega
      rw [e]
      refine (for_inv (ts.map tieD) (fun i env m2 => ∃ e4 e5 e6, env = [some (.str X), some (.ptr m.length), some (.ptr (m.length + 1)), some (.lst I), e4, e5, e6, none, none] ∧ m2 = m') (fun _ _ => False) (fun _ _ => False) (fun i env m2 _ hI => by obtain ⟨_, _, _, _, rfl⟩ := hI; simp only [rlOf, gT]) (fun i x env m2 hx hI => ?_) (ts.length + 1) 0 _ _ (by simp) (by simp) ⟨none, none, none, rfl, rfl⟩).mono ?_
      · obtain ⟨e4, e5, e6, rfl, rfl⟩ := hI
        rw [List.getElem?_map] at hx
        cases q : ts[i]? with
        | none => rw [q] at hx; cases hx
        | some t =>
          rw [q] at hx
          cases hx
          obtain ⟨t1, t2⟩ := h.te t (List.mem_of_getElem? q)
          have q1 := has_int t.2.1 ps
          have q2 := has_int t.2.2.2 ps
          have fa := flat_int ps
          have fb := flat_int' ps
          have fi : ∀ i, flatD (.int i) = true := fun _ => rfl
          refine OK_of (a := (Fl.nx, [some (.str X), some (.ptr m.length), some (.ptr (m.length + 1)), some (.lst I), some (.str t.2.2.1), some (.int t.2.1), some (.int t.2.2.2), none, none])) (m := m2) ?_ ⟨_, _, _, rfl, rfl⟩
          generalize ps.map D.int = P at gP q1 q2 fa fb
          simp -implicitDefEqProofs [turnOf, tieD, gP, q1, q2, fa, fb, fi, t1, t2]
      · rintro ⟨fl, env'⟩ m2 hh
        cases fl with
        | nx =>
          rcases hh with hh | hh
          · obtain ⟨e4, e5, e6, h1, h2⟩ := hh
            exact ⟨rfl, e4, e5, e6, h1, h2⟩
          · exact hh.elim
        | brk => exact hh.elim
        | cont => exact hh.elim
        | ret d => exact hh.elim
    rintro env m' ⟨e4, e5, e6, rfl, rfl⟩
    refine seq_nx (env' := [some (.str X), some (.ptr m.length), some (.ptr (m.length + 1)), some (.lst I), e4, e5, e6, some (.ptr m'.length), none]) (ms1 := m2) (by simp -implicitDefEqProofs [dv_Web___init__, e2]) ?_
    have w2o := w2.o
    have e3' : sem_Web_put_back [.ptr m'.length, .tup [.ptr m.length, .ptr (m.length + 1), .int (nxt ps), .int (nxt (ts.map (·.1)))]] m2 = .ok .non m3 := e3
    refine seq_nx (env' := [some (.str X), some (.ptr m.length), some (.ptr (m.length + 1)), some (.lst I), e4, e5, e6, some (.ptr m'.length), none]) (ms1 := m3) (by simp -implicitDefEqProofs [w2o, n1, n2, e3']) ?_
    exact OK_of (a := (Fl.ret (.ptr m'.length), [some (.str X), some (.ptr m.length), some (.ptr (m.length + 1)), some (.lst I), e4, e5, e6, some (.ptr m'.length), none])) (m := m3) (by simp -implicitDefEqProofs) ⟨rfl, rfl⟩
  · rw [fr3.at_ n (by omega) (by simp; omega), fr2.at_ n (by omega) (by simp), hm1, List.getElem?_append_left hn]
end LW

set_option maxHeartbeats 4000000
namespace LW
open PySem PySem.Spec L2 DL
open PyProof.Rows hiding St

/-! ### whose cells are whose: colours -/
abbrev Col := Nat → Nat
structure Stp (ks : List Nat) (col : Col) (ms ms' : MS) (col' : Col) : Prop where
  len : ms.length ≤ ms'.length
  old : ∀ n, n < ms.length → col' n = col n
  at_ : ∀ n, n < ms.length → col n ∉ ks → ms'[n]? = ms[n]?
theorem Stp.refl {ks : List Nat} {col : Col} {ms : MS} : Stp ks col ms ms col := ⟨Nat.le_refl _, fun _ _ => rfl, fun _ _ _ => rfl⟩
theorem Stp.trans {ks ks' : List Nat} {c1 c2 c3 : Col} {m1 m2 m3 : MS} (h : Stp ks c1 m1 m2 c2) (h' : Stp ks' c2 m2 m3 c3) : Stp (ks ++ ks') c1 m1 m3 c3 :=
  ⟨Nat.le_trans h.len h'.len, fun n hn => (h'.old n (Nat.lt_of_lt_of_le hn h.len)).trans (h.old n hn), fun n hn hk => by
    rw [List.mem_append, not_or] at hk
    rw [h'.at_ n (Nat.lt_of_lt_of_le hn h.len) (by rw [h.old n hn]; exact hk.2), h.at_ n hn hk.1]⟩
theorem Stp.sub {ks ks' : List Nat} {c1 c2 : Col} {m1 m2 : MS} (h : Stp ks c1 m1 m2 c2) (hs : ∀ k, k ∈ ks → k ∈ ks') : Stp ks' c1 m1 m2 c2 := ⟨h.len, h.old, fun n hn hk => h.at_ n hn fun z => hk (hs _ z)⟩
theorem Stp.push {ks : List Nat} {col : Col} {ms : MS} (l : MS) : Stp ks col ms (ms ++ l) col := ⟨by simp, fun _ _ => rfl, fun n hn _ => List.getElem?_append_left hn⟩
theorem Stp.bag {col : Col} {b : Nat} {ms ms' : MS} (hb : col b = 0) (h : Bg b ms ms') : Stp [0] col ms ms' col :=
  ⟨Nat.le_of_eq h.len.symm, fun _ _ => rfl, fun n _ hk => h.rest n fun e => hk (by rw [e, hb]; simp)⟩
/-- a cell of another colour stays as it is -/
theorem Stp.get {ks : List Nat} {c1 c2 : Col} {m1 m2 : MS} (h : Stp ks c1 m1 m2 c2) {n : Nat} {x : Cell} (hn : m1[n]? = some x) (hk : c1 n ∉ ks) : m2[n]? = some x := by rw [h.at_ n (lt_of hn) hk]; exact hn
def WebC (k : Nat) (col : Col) (ms : MS) (w : Nat) (W : Web) : Prop := ∃ a b c, WebAt ms w a b c W ∧ col w = k ∧ col a = k ∧ col b = k ∧ col c = k
def BagC (col : Col) (ms : MS) (b : Nat) : Prop := Bag b ms ∧ col b = 0
section
variable {ks : List Nat} {k w o b : Nat} {c1 c2 : Col} {m1 m2 : MS} {W : Web}
theorem WebC.keep (h : WebC k c1 m1 w W) (s : Stp ks c1 m1 m2 c2) (hk : k ∉ ks) : WebC k c2 m2 w W := by
  obtain ⟨a, b, c, hw, e0, e1, e2, e3⟩ := h
  refine ⟨a, b, c, hw.keep fun n hn => ?_, by rw [s.old _ (lt_of hw.o)]; exact e0, by rw [s.old _ (lt_of hw.p)]; exact e1, by rw [s.old _ (lt_of hw.t)]; exact e2, by rw [s.old _ (lt_of hw.m)]; exact e3⟩
  rcases hn with rfl | rfl | rfl | rfl
  · exact s.at_ _ (lt_of hw.o) (by rw [e0]; exact hk)
  · exact s.at_ _ (lt_of hw.p) (by rw [e1]; exact hk)
  · exact s.at_ _ (lt_of hw.t) (by rw [e2]; exact hk)
  · exact s.at_ _ (lt_of hw.m) (by rw [e3]; exact hk)
theorem BagC.keep (h : BagC c1 m1 b) (s : Stp ks c1 m1 m2 c2) (hk : 0 ∉ ks) : BagC c2 m2 b := by
  obtain ⟨⟨cs, k, c, st, q, e, r⟩, e0⟩ := h
  exact ⟨⟨cs, k, c, st, q, s.get e (by rw [e0]; exact hk), r⟩, by rw [s.old _ (lt_of e)]; exact e0⟩
theorem BagC.go (h : BagC c1 m1 b) (g : Bg b m1 m2) : BagC c1 m2 b := ⟨g.bag, h.2⟩
theorem BagC.stp (h : BagC c1 m1 b) (g : Bg b m1 m2) : Stp [0] c1 m1 m2 c1 := Stp.bag h.2 g
end
/-! ### alike -/
def plainD : DL.D → Bool
  | .non => true
  | .bl _ => true
  | .int _ => true
  | .str _ => true
  | _ => false
def Alk (ms : MS) : Nat → DL.D → DL.D → Prop
  | 0, _, _ => False
  | n + 1, a, b => (∃ xs ys : List DL.D, ((IsL ms a xs ∧ IsL ms b ys) ∨ (a = .tup xs ∧ b = .tup ys)) ∧ xs.length = ys.length ∧ ys.length ≤ 1000000 ∧ ∀ (k : Nat) (x y : DL.D), xs[k]? = some x → ys[k]? = some y → Alk ms n x y) ∨ (a = b ∧ plainD a = true)
theorem alike_ok {ms : MS} : ∀ (n : Nat) (a b : DL.D), Alk ms n a b → sem__law_alike n [a, b] ms = .ok (.bl true) ms
  | 0, _, _, h => h.elim
  | n + 1, a, b, h => by
    rcases h with ⟨xs, ys, hs, hl, hz, hk⟩ | ⟨rfl, hp⟩
    · have c1 : (-4611686018427387904 : Int) ≤ ys.length := by omega
      have c2 : (ys.length : Int) < 4611686018427387904 := by omega
      have c3 : ys.length ≤ 16777216 := by omega
      have hall : ((List.range ys.length).map fun _ => true).all id = true := by simp
      have hb : (List.range ys.length).map (fun _ => D.bl true) = ((List.range ys.length).map fun _ => true).map D.bl := by rw [List.map_map]; rfl
      have step : ∀ j, j < ys.length → ∃ x y, xs[j]? = some x ∧ ys[j]? = some y ∧ sem__law_alike n [x, y] ms = .ok (.bl true) ms := fun j hj =>
        ⟨xs[j]'(by omega), ys[j], List.getElem?_eq_getElem (by omega), List.getElem?_eq_getElem hj, alike_ok n _ _ (hk j _ _ (List.getElem?_eq_getElem (by omega)) (List.getElem?_eq_getElem hj))⟩
      have e : compLoop (fun i _ => rngNx 0 ys.length i) (stepOf (nameT 2) yesT (appE (consA (binE (varE 0) (varE 2) idxD) (consA (binE (varE 1) (varE 2) idxD) nilA)) (callP 2 (sem__law_alike n))) [some a, some b, none]) (ys.length + 1) 0 [] ms = .ok (((List.range ys.length).map fun _ => true).map D.bl) ms := by
        rw [← hb]
        refine comp_zip (List.range ys.length) (fun k => D.int (0 + (k : Int))) (fun _ => D.bl true) (fun i => rngNx_eq 0 ys.length i) (by simp; omega) (fun j hj => ?_) (by simp)
        obtain ⟨x, y, h1, h2, h3⟩ := step j (List.mem_range.mp hj)
        rcases hs with ⟨rfl | ⟨u, rfl, hu⟩, rfl | ⟨v, rfl, hv⟩⟩ | ⟨rfl, rfl⟩
        · simp -implicitDefEqProofs [atI_lit, h1, h2, h3]
        · simp -implicitDefEqProofs [atI_lit, h1, h2, h3, hv]
        · simp -implicitDefEqProofs [atI_lit, h1, h2, h3, hu]
        · simp -implicitDefEqProofs [atI_lit, h1, h2, h3, hu, hv]
        · simp -implicitDefEqProofs [atI_lit, h1, h2, h3]
      generalize (List.range ys.length).map (fun _ => true) = bs at e hall
      rw [sem__law_alike_eq]
      rcases hs with ⟨rfl | ⟨u, rfl, hu⟩, rfl | ⟨v, rfl, hv⟩⟩ | ⟨rfl, rfl⟩
      · simp -implicitDefEqProofs [B__law_alike, hl, c1, c2, c3, e, hall]
      · simp -implicitDefEqProofs [B__law_alike, hl, c1, c2, c3, e, hall, hv]
      · simp -implicitDefEqProofs [B__law_alike, hl, c1, c2, c3, e, hall, hu]
      · simp -implicitDefEqProofs [B__law_alike, hl, c1, c2, c3, e, hall, hu, hv]
      · simp -implicitDefEqProofs [B__law_alike, hl, c1, c2, c3, e, hall]
    · rw [sem__law_alike_eq]
      have qn := (eqG_self (a := .non) (b := .non) (ms := ms) (k := 0) rfl rfl (by decide)).1
      cases a with
      | non => simp -implicitDefEqProofs [B__law_alike, qn]
      | bl _ => simp -implicitDefEqProofs [B__law_alike]
      | int _ => simp -implicitDefEqProofs [B__law_alike]
      | str _ => simp -implicitDefEqProofs [B__law_alike]
      | _ => cases hp
theorem alk_plain {ms : MS} {n : Nat} {d : DL.D} (h : plainD d = true) : Alk ms (n + 1) d d := .inr ⟨rfl, h⟩
theorem alk_list {ms : MS} {n : Nat} {a b : DL.D} {xs : List DL.D} (ha : IsL ms a xs) (hb : IsL ms b xs) (hl : xs.length ≤ 1000000) (h : ∀ x ∈ xs, Alk ms n x x) : Alk ms (n + 1) a b :=
  .inl ⟨xs, xs, .inl ⟨ha, hb⟩, rfl, hl, fun k x y e1 e2 => by
    rw [e1] at e2
    cases e2
    exact h x (List.mem_of_getElem? e1)⟩
theorem alk_ints {ms : MS} {n : Nat} {a b : DL.D} {l : List Int} (ha : IsL ms a (l.map .int)) (hb : IsL ms b (l.map .int)) (hl : l.length ≤ 1000000) : Alk ms (n + 2) a b :=
  alk_list ha hb (by simpa using hl) fun x hx => by
    obtain ⟨i, _, rfl⟩ := List.mem_map.mp hx
    exact alk_plain rfl
theorem alk_strs {ms : MS} {n : Nat} {a b : DL.D} {l : List Str} (ha : IsL ms a (l.map .str)) (hb : IsL ms b (l.map .str)) (hl : l.length ≤ 1000000) : Alk ms (n + 2) a b :=
  alk_list ha hb (by simpa using hl) fun x hx => by
    obtain ⟨i, _, rfl⟩ := List.mem_map.mp hx
    exact alk_plain rfl
theorem alk_tup {ms : MS} {n : Nat} {xs ys : List DL.D} (hl : xs.length = ys.length) (hz : ys.length ≤ 1000000) (h : ∀ (k : Nat) (x y : DL.D), xs[k]? = some x → ys[k]? = some y → Alk ms n x y) : Alk ms (n + 1) (.tup xs) (.tup ys) := .inl ⟨xs, ys, .inr ⟨rfl, rfl⟩, hl, hz, h⟩
theorem alk_ptup {ms : MS} {n : Nat} {xs : List DL.D} (hz : xs.length ≤ 1000000) (h : ∀ x ∈ xs, plainD x = true) : Alk ms (n + 2) (.tup xs) (.tup xs) := alk_tup rfl hz fun k x y e1 e2 => by
  rw [e1] at e2
  cases e2
  exact alk_plain (h x (List.mem_of_getElem? e1))
theorem alk_end {ms : MS} {n : Nat} (t : Tie) : Alk ms (n + 2) (endD t) (endD t) := alk_ptup (by simp) fun x hx => by
  simp only [List.mem_cons, List.not_mem_nil, or_false] at hx
  rcases hx with rfl | rfl | rfl <;> rfl
theorem alk_tie {ms : MS} {n : Nat} (t : Tie) : Alk ms (n + 2) (tieD t) (tieD t) := alk_ptup (by simp) fun x hx => by
  simp only [List.mem_cons, List.not_mem_nil, or_false] at hx
  rcases hx with rfl | rfl | rfl | rfl <;> rfl
theorem alk_ties {ms : MS} {n : Nat} {a b : DL.D} {l : List Tie} (ha : IsL ms a (l.map tieD)) (hb : IsL ms b (l.map tieD)) (hl : l.length ≤ 1000000) : Alk ms (n + 3) a b :=
  alk_list ha hb (by simpa using hl) fun x hx => by
    obtain ⟨i, _, rfl⟩ := List.mem_map.mp hx
    exact alk_tie i

/-! ### deeds on a coloured web -/
section
variable {ks : List Nat} {k w a b c a' b' o : Nat} {c1 c2 : Col} {m1 m2 : MS} {W W' : Web}
theorem WebC.go (h : WebAt m1 w a b c W) (e0 : c1 w = k) (e1 : c1 a = k) (e2 : c1 b = k) (e3 : c1 c = k) (h' : WebAt m2 w a' b' c W') (fr : Fr m1 m2 [w, a, b, c]) (ha : a' = a ∨ m1.length ≤ a') (hb : b' = b ∨ m1.length ≤ b') :
    ∃ c2, WebC k c2 m2 w W' ∧ Stp [k] c1 m1 m2 c2 := by
  have g : ∀ x x' : Nat, x < m1.length → c1 x = k → (x' = x ∨ m1.length ≤ x') → (if x' < m1.length then c1 x' else k) = k := fun x x' hx hc hh => by
    rcases hh with rfl | hh
    · rw [if_pos hx]; exact hc
    · rw [if_neg (by omega)]
  refine ⟨fun n => if n < m1.length then c1 n else k, ⟨a', b', c, h', g w w (lt_of h.o) e0 (.inl rfl), g a a' (lt_of h.p) e1 ha, g b b' (lt_of h.t) e2 hb, g c c (lt_of h.m) e3 (.inl rfl)⟩, ⟨fr.len, fun n hn => if_pos hn, fun n hn hk => fr.at_ n hn fun z => hk ?_⟩⟩
  simp only [List.mem_cons, List.not_mem_nil, or_false] at z ⊢
  rcases z with rfl | rfl | rfl | rfl
  · exact e0
  · exact e1
  · exact e2
  · exact e3
theorem Fr.sub {L L' : List Nat} (h : Fr m1 m2 L) (hs : ∀ n, n ∈ L → n ∈ L') : Fr m1 m2 L' := ⟨h.len, fun n hn hk => h.at_ n hn fun z => hk (hs n z)⟩
theorem Fr.app {l : MS} {L : List Nat} : Fr m1 (m1 ++ l) L := ⟨by simp, fun n hn _ => List.getElem?_append_left hn⟩
theorem WebC.obj (h : WebC k c1 m1 w W) : ∃ a b c, m1[w]? = some (.obj "Web" (webF W a b c)) := by
  obtain ⟨a, b, c, hw, _⟩ := h
  exact ⟨a, b, c, hw.o⟩
theorem WebC.push (h : WebC k c1 m1 w W) (l : MS) : WebC k c1 (m1 ++ l) w W := by
  obtain ⟨a, b, c, hw, e⟩ := h
  exact ⟨a, b, c, hw.push l, e⟩
theorem place_c (h : WebC k c1 m1 w W) (st : StOk W.stand) (hf : (W.ps.length : Int) < W.mp) :
    ∃ m2 c2, sem_Web_place [.ptr w] m1 = .ok (.int W.np) m2 ∧ WebC k c2 m2 w { W with ps := W.ps ++ [W.np], np := W.np + 1 } ∧ Stp [k] c1 m1 m2 c2 := by
  obtain ⟨a, b, c, hw, e0, e1, e2, e3⟩ := h
  obtain ⟨c2, q1, q2⟩ := WebC.go hw e0 e1 e2 e3 (hw.place (W.ps ++ [W.np]) (W.np + 1)) (((Fr.set a _).trans (Fr.set w _)).sub (by simp)) (.inl rfl) (.inl rfl)
  exact ⟨_, c2, place_ok hw st hf, q1, q2⟩
theorem tie_c {p q : Int} {x : Str} (h : WebC k c1 m1 w W) (st : StOk W.stand) (hp : p ∈ W.ps) (hq : q ∈ W.ps) (hx : isN x = true) (hxl : x.length ≤ 1000000) (hf : (W.ts.length : Int) < W.mt) :
    ∃ m2 c2, sem_Web_tie [.ptr w, .int p, .str x, .int q] m1 = .ok (.int W.nt) m2 ∧ WebC k c2 m2 w { W with ts := W.ts ++ [(W.nt, p, x, q)], nt := W.nt + 1 } ∧ Stp [k] c1 m1 m2 c2 := by
  obtain ⟨a, b, c, hw, e0, e1, e2, e3⟩ := h
  obtain ⟨c2, q1, q2⟩ := WebC.go hw e0 e1 e2 e3 (hw.tie (W.ts ++ [(W.nt, p, x, q)]) (W.nt + 1)) (((Fr.set b _).trans (Fr.set w _)).sub (by simp)) (.inl rfl) (.inl rfl)
  exact ⟨_, c2, tie_ok hw st hp hq hx hxl hf, q1, q2⟩
theorem cut_c {t : Tie} (h : WebC k c1 m1 w W) (st : StOk W.stand) (ht : t ∈ W.ts) :
    ∃ m2 c2, sem_Web_cut [.ptr w, .int t.1] m1 = .ok .non m2 ∧ WebC k c2 m2 w { W with ts := W.ts.filter fun s => decide (s.1 ≠ t.1) } ∧ Stp [k] c1 m1 m2 c2 := by
  obtain ⟨a, b, c, hw, e0, e1, e2, e3⟩ := h
  obtain ⟨c2, q1, q2⟩ := WebC.go hw e0 e1 e2 e3 (hw.cut (W.ts.filter fun s => decide (s.1 ≠ t.1))) ((Fr.set b _).sub (by simp)) (.inl rfl) (.inl rfl)
  exact ⟨_, c2, cut_ok hw st ht, q1, q2⟩
theorem drop_c {p : Int} (h : WebC k c1 m1 w W) (st : StOk W.stand) (hp : p ∈ W.ps) (hf : W.ts.filter (atP p) = []) :
    ∃ m2 c2, sem_Web_drop [.ptr w, .int p] m1 = .ok .non m2 ∧ WebC k c2 m2 w { W with ps := W.ps.filter fun q => decide (q ≠ p) } ∧ Stp [k] c1 m1 m2 c2 := by
  obtain ⟨a, b, c, hw, e0, e1, e2, e3⟩ := h
  obtain ⟨c2, q1, q2⟩ := WebC.go hw e0 e1 e2 e3 ((hw.push [Cell.lst (W.ts.map tieD), Cell.lst []]).drop (W.ps.filter fun q => decide (q ≠ p))) (((Fr.app (L := [])).trans (Fr.set a _)).sub (by simp)) (.inl rfl) (.inl rfl)
  exact ⟨_, c2, drop_ok hw st hp hf, q1, q2⟩
theorem mark_c (h : WebC k c1 m1 w W) (st : WOk W) :
    ∃ m2 c2, sem_Web_mark [.ptr w] m1 = .ok (.int W.mks.length) m2 ∧ WebC k c2 m2 w { W with mks := W.mks ++ [W.stand] } ∧ Stp [k] c1 m1 m2 c2 := by
  obtain ⟨a, b, c, hw, e0, e1, e2, e3⟩ := h
  obtain ⟨c2, q1, q2⟩ := WebC.go hw e0 e1 e2 e3 (hw.mark (W.mks ++ [W.stand])) ((Fr.set c _).sub (by simp)) (.inl rfl) (.inl rfl)
  exact ⟨_, c2, mark_ok hw st, q1, q2⟩
theorem undo_c {m : Nat} {s : Stand} (h : WebC k c1 m1 w W) (st : WOk W) (hm : W.mks[m]? = some s) :
    ∃ m2 c2, sem_Web_undo [.ptr w, .int m] m1 = .ok .non m2 ∧ WebC k c2 m2 w { W with ps := s.1, ts := s.2.1, np := s.2.2.1, nt := s.2.2.2, mks := W.mks.take (m + 1) } ∧ Stp [k] c1 m1 m2 c2 := by
  obtain ⟨a, b, c, hw, e0, e1, e2, e3⟩ := h
  obtain ⟨m2, e, hw', fr⟩ := undo_ok hw st hm
  obtain ⟨c2, q1, q2⟩ := WebC.go hw e0 e1 e2 e3 hw' (fr.sub (by simp)) (.inr (Nat.le_refl _)) (.inr (by omega))
  exact ⟨_, c2, e, q1, q2⟩
theorem places_c (h : WebC k c1 m1 w W) (st : StOk W.stand) : sem_Web_places [.ptr w] m1 = .ok (.ptr m1.length) (m1 ++ [.lst (W.ps.map .int)]) := by
  obtain ⟨a, b, c, hw, _⟩ := h
  exact places_ok hw st
theorem ties_c (h : WebC k c1 m1 w W) (st : StOk W.stand) : sem_Web_ties [.ptr w] m1 = .ok (.ptr m1.length) (m1 ++ [.lst (W.ts.map tieD)]) := by
  obtain ⟨a, b, c, hw, _⟩ := h
  exact ties_ok hw st
theorem read_c {ps : List Int} {ts : List Tie} (k : Nat) (h : Bd ps ts) (c1 : Col) (m1 : MS) : ∃ m2 w c2, sem_read_web [.str (written ps ts)] m1 = .ok (.ptr w) m2 ∧ WebC k c2 m2 w (WR ps ts) ∧ Stp [] c1 m1 m2 c2 := by
  obtain ⟨m2, w, a, b, c, e, hw, fr, l1, l2, l3, l4⟩ := read_web_ok h m1
  refine ⟨m2, w, fun n => if n < m1.length then c1 n else k, e, ⟨a, b, c, hw, ?_, ?_, ?_, ?_⟩, ⟨fr.len, fun n hn => if_pos hn, fun n hn _ => fr.at_ n hn (by simp)⟩⟩
  · exact if_neg (by omega)
  · exact if_neg (by omega)
  · exact if_neg (by omega)
  · exact if_neg (by omega)
/-- a list of the law's own -/
def LsC (col : Col) (ms : MS) (d : D) (xs : List D) : Prop := d = .lst xs ∨ ∃ n, d = .ptr n ∧ ms[n]? = some (.lst xs) ∧ col n = 9
theorem LsC.is {d : D} {xs : List D} (h : LsC c1 m1 d xs) : IsL m1 d xs := h.imp id fun ⟨n, e, q, _⟩ => ⟨n, e, q⟩
theorem LsC.keep {d : D} {xs : List D} (h : LsC c1 m1 d xs) (s : Stp ks c1 m1 m2 c2) (hk : 9 ∉ ks) : LsC c2 m2 d xs := h.imp id fun ⟨n, e, q, z⟩ => ⟨n, e, s.get q (by rw [z]; exact hk), by rw [s.old _ (lt_of q)]; exact z⟩
theorem LsC.push {d : D} {xs : List D} (h : LsC c1 m1 d xs) (l : MS) : LsC c1 (m1 ++ l) d xs := h.keep (Stp.push (ks := []) l) (by simp)
theorem LsC.draw {d : D} {xs : List D} (h : LsC c1 m1 d xs) (hb : BagC c1 m1 b) (g : Bg b m1 m2) : LsC c1 m2 d xs := h.keep (hb.stp g) (by simp)
theorem WebC.draw (h : WebC k c1 m1 w W) (hb : BagC c1 m1 b) (g : Bg b m1 m2) (hk : k ≠ 0) : WebC k c1 m2 w W := h.keep (hb.stp g) (by simpa using hk)
theorem BagC.push (h : BagC c1 m1 b) (l : MS) : BagC c1 (m1 ++ l) b := h.keep (Stp.push (ks := []) l) (by simp)
end
end LW

set_option maxHeartbeats 4000000
namespace LW
open PySem PySem.Spec L2 DL
open PyProof.Rows hiding St

theorem nxt_le {l : List Int} {n : Int} (h0 : 0 ≤ n) (h : ∀ p ∈ l, p < n) : nxt l ≤ n := by
  unfold nxt maxO
  cases e : l.max? with
  | none => show (-1 : Int) + 1 ≤ n; omega
  | some m =>
    have := h m (List.max?_eq_some_iff.mp e).1
    show m + 1 ≤ n
    omega
theorem atL {α : Type} {l : List α} {i : Int} (h0 : 0 ≤ i) (h : i < l.length) (f : α → D) : ∃ x, atI (l.map f) i = some (f x) ∧ x ∈ l := by
  obtain ⟨x, hx, hm⟩ := atI_in (xs := l) h0 h
  exact ⟨x, by rw [atI_map, hx]; rfl, hm⟩
theorem step_in {far : Int} (h : 0 ≤ far ∧ far < 4) : ∃ z : Int, atI [D.int 1, .int 1, .int 3, .int 10000000000] far = some (.int z) ∧ 1 ≤ z ∧ z ≤ 10000000000 := by
  obtain ⟨dd, hd, hm⟩ := atI_in (xs := [D.int 1, .int 1, .int 3, .int 10000000000]) (i := far) h.1 h.2
  simp only [List.mem_cons, List.not_mem_nil, or_false] at hm
  rcases hm with rfl | rfl | rfl | rfl
  · exact ⟨1, hd, by decide, by decide⟩
  · exact ⟨1, hd, by decide, by decide⟩
  · exact ⟨3, hd, by decide, by decide⟩
  · exact ⟨_, hd, by decide, by decide⟩
theorem rise_snoc {ps : List Int} {n x : Int} (h : ps.Pairwise (· < ·)) (hn : ∀ p ∈ ps, p < n) (hx : n ≤ x) : (ps ++ [x]).Pairwise (· < ·) := by
  rw [List.pairwise_append]
  refine ⟨h, List.pairwise_singleton _ _, fun p hp q hq => ?_⟩
  obtain rfl : q = x := by simpa using hq
  have := hn p hp
  omega
/-- places drawn so far -/
structure Pd (n at_ : Int) (ps : List Int) : Prop where
  pr : ps.Pairwise (· < ·)
  lo : ∀ p ∈ ps, 0 ≤ p ∧ p < at_
  a0 : 0 ≤ at_
  a1 : at_ ≤ n * 10000000001
theorem Pd.more {n at_ r z : Int} {ps : List Int} (h : Pd n at_ ps) (hr : 0 ≤ r ∧ r < z) (hz : z ≤ 10000000000) : Pd (n + 1) (at_ + r + 1) (ps ++ [at_ + r]) where
  pr := rise_snoc h.pr (fun p hp => (h.lo p hp).2) (by omega)
  lo := fun p hp => by
    have := h.a0
    rcases List.mem_append.mp hp with z | z
    · have := h.lo p z; omega
    · obtain rfl : p = at_ + r := by simpa using z
      omega
  a0 := by have := h.a0; omega
  a1 := by have := h.a1; omega
section
variable {m : MS} {b : Nat} {np nt : Nat} {far : Int}
theorem web_places (hb : Bag b m) {L : Nat} (hL : m[L]? = some (.lst [])) (hLb : L ≠ b) (hp : np ≤ 60) (hf : 0 ≤ far ∧ far < 4) :
    OK (forS (rngSrc1 (varE 1)) (nameT 6) (seqS (setS 5 (binE (varE 5) (appE (consA (varE 0) (consA (binE (appE (consA (cE (.int 1)) (consA (cE (.int 1)) (consA (cE (.int 3)) (consA (binE (cE (.int 10)) (cE (.int 10)) powD) nilA)))) mkLst) (varE 3) idxD) nilA)) (callP 2 sem__law_draw)) addD))
  (seqS (dropS (appM (varE 4) (varE 5)))
  (setS 5 (binE (varE 5) (cE (.int 1)) addD)))) [some (.ptr b), some (.int np), some (.int nt), some (.int far), some (.ptr L), some (.int 0), none, none, none, none] m)
      fun a m' => a.1 = .nx ∧ ∃ ps at_ e6, a.2 = [some (.ptr b), some (.int np), some (.int nt), some (.int far), some (.ptr L), some (.int at_), e6, none, none, none] ∧ Pd np at_ ps ∧ ps.length = np ∧ m'[L]? = some (.lst (ps.map .int)) ∧ Bag b m' := by
  have c1 : (-4611686018427387904 : Int) ≤ np := by omega
  have c2 : (np : Int) < 4611686018427387904 := by omega
  obtain ⟨z, hz, z1, z2⟩ := step_in hf
  refine for_ok (P := fun s m' => s.nx = (fun i _ => rngNx 0 np i) ∧ s.n = np + 1 ∧ m' = m) (by simp -implicitDefEqProofs [c1, c2]) ?_
  rintro s m' ⟨hs1, hs2, rfl⟩
  rw [hs1, hs2]
  refine (for_inv ((List.range np).map fun (k : Nat) => D.int (0 + (k : Int))) (fun i env m2 => ∃ ps at_ e6, env = [some (.ptr b), some (.int np), some (.int nt), some (.int far), some (.ptr L), some (.int at_), e6, none, none, none] ∧ Pd i at_ ps ∧ ps.length = i ∧ m2[L]? = some (.lst (ps.map .int)) ∧ Bag b m2) (fun _ _ => False) (fun _ _ => False) (fun i _ _ _ _ => rngNx_eq 0 np i) (fun i x env m2 hx hI => turn_name ?_) (np + 1) 0 _ m' (by simp) (by simp) ⟨[], 0, none, rfl, ⟨List.Pairwise.nil, (fun p h => nomatch h), by decide, by decide⟩, rfl, hL, hb⟩).mono ?_
  · obtain ⟨ps, at_, e6, rfl, hP, hlen, hl, hB⟩ := hI
    have hi : i < np := by
      have := (List.getElem?_eq_some_iff.mp hx).1
      simpa using this
    obtain ⟨_, m3, d3, r, rfl, r0, r1, B3⟩ := draw_ok hB (many := z) (by omega) (by omega)
    have hl3 : m3[L]? = some (.lst (ps.map .int)) := by rw [B3.rest L hLb]; exact hl
    have hl4 : ps.length < 16777216 := by omega
    show OK (seqS _ _ [some (.ptr b), some (.int np), some (.int nt), some (.int far), some (.ptr L), some (.int at_), some x, none, none, none] m2) _
    refine seq_nx (env' := [some (.ptr b), some (.int np), some (.int nt), some (.int far), some (.ptr L), some (.int (at_ + r)), some x, none, none, none]) (ms1 := m3) (by simp -implicitDefEqProofs [hz, d3]) ?_
    refine seq_nx (env' := [some (.ptr b), some (.int np), some (.int nt), some (.int far), some (.ptr L), some (.int (at_ + r)), some x, none, none, none]) (ms1 := m3.set L (.lst (ps.map .int ++ [.int (at_ + r)]))) (by simp -implicitDefEqProofs [hl3, hl4]) ?_
    refine OK_of (a := (.nx, [some (.ptr b), some (.int np), some (.int nt), some (.int far), some (.ptr L), some (.int (at_ + r + 1)), some x, none, none, none])) (m := m3.set L (.lst (ps.map .int ++ [.int (at_ + r)]))) (by simp -implicitDefEqProofs) ?_
    refine ⟨ps ++ [at_ + r], at_ + r + 1, some x, rfl, ?_, by simp [hlen], by rw [List.getElem?_set_self (lt_of hl3), List.map_append]; rfl, ?_⟩
    · have := hP.more ⟨r0, r1⟩ z2
      rw [show ((i + 1 : Nat) : Int) = (i : Int) + 1 by omega]
      exact this
    · obtain ⟨cs, k, c, st, q, e, rr⟩ := B3.bag
      exact ⟨cs, k, c, st, q, by rw [List.getElem?_set_ne hLb]; exact e, rr⟩
  · rintro ⟨fl, env'⟩ m2 h
    cases fl with
    | nx =>
      rcases h with ⟨ps, at_, e6, rfl, hP, hlen, r⟩ | h
      · have e : ((List.range np).map fun (k : Nat) => D.int (0 + (k : Int))).length = np := by simp
        rw [e] at hP hlen
        exact ⟨rfl, ps, at_, e6, rfl, hP, hlen, r⟩
      · exact h.elim
    | brk => exact h.elim
    | cont => exact h.elim
    | ret d => exact h.elim
/-- ties drawn so far -/
structure Td (ps : List Int) (n at_ : Int) (ts : List Tie) : Prop where
  p : Pd n at_ (ts.map (·.1))
  te : ∀ t ∈ ts, (t.2.1 ∈ ps ∧ t.2.2.2 ∈ ps) ∧ Nm t.2.2.1
theorem Td.more {ps : List Int} {n at_ r z p q : Int} {x : Str} {ts : List Tie} (h : Td ps n at_ ts) (hr : 0 ≤ r ∧ r < z) (hz : z ≤ 10000000000) (hp : p ∈ ps) (hq : q ∈ ps) (hx : Nm x) : Td ps (n + 1) (at_ + r + 1) (ts ++ [(at_ + r, p, x, q)]) where
  p := by have := h.p.more hr hz; rw [List.map_append]; exact this
  te := fun t ht => by
    rcases List.mem_append.mp ht with z | z
    · exact h.te t z
    · obtain rfl : t = (at_ + r, p, x, q) := by simpa using z
      exact ⟨⟨hp, hq⟩, hx⟩
theorem web_ties (hb : Bag b m) {L R : Nat} {ps : List Int} {xs : List Str} {e6 e9 : Option D} {f : DL.Env → MS → Res D} {N : Nat} (hL : m[L]? = some (.lst (ps.map .int))) (hR : m[R]? = some (.lst [])) (hLb : L ≠ b) (hRb : R ≠ b) (hLR : L ≠ R) (hps : ps.length = np) (hp : np ≤ 60) (hN : N ≤ 200) (hnz : 0 < N → 0 < np) (hf : 0 ≤ far ∧ far < 4) (hx : 1 ≤ xs.length ∧ xs.length ≤ 4) (hxn : ∀ x ∈ xs, Nm x)
    (hff : f [some (.ptr b), some (.int np), some (.int nt), some (.int far), some (.ptr L), some (.int 0), e6, some (.lst (xs.map .str)), some (.ptr R), e9] m = .ok (.int N) m) :
    OK (forS (rngSrc1 f) (nameT 6) (seqS (setS 5 (binE (varE 5) (appE (consA (varE 0) (consA (binE (appE (consA (cE (.int 1)) (consA (cE (.int 1)) (consA (cE (.int 3)) (consA (binE (cE (.int 10)) (cE (.int 10)) powD) nilA)))) mkLst) (varE 3) idxD) nilA)) (callP 2 sem__law_draw)) addD))
  (seqS (setS 9 (appE (consA (binE (varE 4) (appE (consA (varE 0) (consA (varE 1) nilA)) (callP 2 sem__law_draw)) idxD) (consA (binE (varE 4) (appE (consA (varE 0) (consA (varE 1) nilA)) (callP 2 sem__law_draw)) idxD) nilA)) mkLst))
  (seqS (dropS (appM (varE 8) (appE (consA (varE 5) (consA (binE (varE 9) (cE (.int 0)) idxD) (consA (binE (varE 7) (appE (consA (varE 0) (consA (appE (consA (varE 7) nilA) lenP) nilA)) (callP 2 sem__law_draw)) idxD) (consA (binE (varE 9) (cE (.int 1)) idxD) nilA)))) mkTup)))
  (setS 5 (binE (varE 5) (cE (.int 1)) addD))))) [some (.ptr b), some (.int np), some (.int nt), some (.int far), some (.ptr L), some (.int 0), e6, some (.lst (xs.map .str)), some (.ptr R), e9] m)
      fun a m' => a.1 = .nx ∧ ∃ ts at_ e6 e9, a.2 = [some (.ptr b), some (.int np), some (.int nt), some (.int far), some (.ptr L), some (.int at_), e6, some (.lst (xs.map .str)), some (.ptr R), e9] ∧ Td ps N at_ ts ∧ ts.length = N ∧ m'[L]? = some (.lst (ps.map .int)) ∧ m'[R]? = some (.lst (ts.map tieD)) ∧ Bag b m' := by
  have c1 : (-4611686018427387904 : Int) ≤ N := by omega
  have c2 : (N : Int) < 4611686018427387904 := by omega
  obtain ⟨z, hz, z1, z2⟩ := step_in hf
  refine for_ok (P := fun s m' => s.nx = (fun i _ => rngNx 0 N i) ∧ s.n = N + 1 ∧ m' = m) (by simp -implicitDefEqProofs [hff, c1, c2]) ?_
  rintro s m' ⟨hs1, hs2, rfl⟩
  rw [hs1, hs2]
  refine (for_inv ((List.range N).map fun (k : Nat) => D.int (0 + (k : Int))) (fun i env m2 => ∃ ts at_ e6 e9, env = [some (.ptr b), some (.int np), some (.int nt), some (.int far), some (.ptr L), some (.int at_), e6, some (.lst (xs.map .str)), some (.ptr R), e9] ∧ Td ps i at_ ts ∧ ts.length = i ∧ m2[L]? = some (.lst (ps.map .int)) ∧ m2[R]? = some (.lst (ts.map tieD)) ∧ Bag b m2) (fun _ _ => False) (fun _ _ => False) (fun i _ _ _ _ => rngNx_eq 0 N i) (fun i x env m2 hx hI => turn_name ?_) (N + 1) 0 _ m' (by simp) (by simp) ⟨[], 0, e6, e9, rfl, ⟨⟨List.Pairwise.nil, (fun p h => nomatch h), by decide, by decide⟩, (fun p h => nomatch h)⟩, rfl, hL, hR, hb⟩).mono ?_
  · obtain ⟨ts, at_, e6, e9, rfl, hP, hlen, hl, hr, hB⟩ := hI
    have hi : i < N := by
      have := (List.getElem?_eq_some_iff.mp hx).1
      simpa using this
    have hnp := hnz (by omega)
    obtain ⟨_, m3, d3, r, rfl, r0, r1, B3⟩ := draw_ok hB (many := z) (by omega) (by omega)
    obtain ⟨_, m4, d4, u, rfl, u0, u1, B4⟩ := draw_ok B3.bag (many := (np : Int)) (by omega) (by omega)
    obtain ⟨_, m5, d5, v, rfl, v0, v1, B5⟩ := draw_ok B4.bag (many := (np : Int)) (by omega) (by omega)
    obtain ⟨_, m6, d6, w, rfl, w0, w1, B6⟩ := draw_ok B5.bag (many := (xs.length : Int)) (by omega) (by omega)
    obtain ⟨p, hp', hpm⟩ := atL (l := ps) u0 (by rw [hps]; exact u1) D.int
    obtain ⟨q, hq', hqm⟩ := atL (l := ps) v0 (by rw [hps]; exact v1) D.int
    obtain ⟨y, hy, hym⟩ := atL (l := xs) w0 w1 D.str
    have l4 : m4[L]? = some (.lst (ps.map .int)) := by rw [B4.rest L hLb, B3.rest L hLb]; exact hl
    have l5 : m5[L]? = some (.lst (ps.map .int)) := by rw [B5.rest L hLb]; exact l4
    have l6 : m6[L]? = some (.lst (ps.map .int)) := by rw [B6.rest L hLb]; exact l5
    have r5 : m5[R]? = some (.lst (ts.map tieD)) := by rw [B5.rest R hRb, B4.rest R hRb, B3.rest R hRb]; exact hr
    have r6 : m6[R]? = some (.lst (ts.map tieD)) := by rw [B6.rest R hRb, B5.rest R hRb, B4.rest R hRb, B3.rest R hRb]; exact hr
    have hl4 : ts.length < 16777216 := by omega
    have hl3 : m3[L]? = some (.lst (ps.map .int)) := by rw [B3.rest L hLb]; exact hl
    have hxl : xs.length ≤ 16777216 := by omega
    show OK (seqS _ _ [some (.ptr b), some (.int np), some (.int nt), some (.int far), some (.ptr L), some (.int at_), some x, some (.lst (xs.map .str)), some (.ptr R), e9] m2) _
    refine seq_nx (env' := [some (.ptr b), some (.int np), some (.int nt), some (.int far), some (.ptr L), some (.int (at_ + r)), some x, some (.lst (xs.map .str)), some (.ptr R), e9]) (ms1 := m3) (by simp -implicitDefEqProofs [hz, d3]) ?_
    refine seq_nx (env' := [some (.ptr b), some (.int np), some (.int nt), some (.int far), some (.ptr L), some (.int (at_ + r)), some x, some (.lst (xs.map .str)), some (.ptr R), some (.lst [.int p, .int q])]) (ms1 := m5) (by simp -implicitDefEqProofs [hl3, l4, l5, hp', hq', d4, d5]) ?_
    refine seq_nx (env' := [some (.ptr b), some (.int np), some (.int nt), some (.int far), some (.ptr L), some (.int (at_ + r)), some x, some (.lst (xs.map .str)), some (.ptr R), some (.lst [.int p, .int q])]) (ms1 := m6.set R (.lst (ts.map tieD ++ [tieD (at_ + r, p, y, q)]))) (by simp -implicitDefEqProofs [r5, r6, hl4, d6, hxl, hy, tieD]) ?_
    refine OK_of (a := (.nx, [some (.ptr b), some (.int np), some (.int nt), some (.int far), some (.ptr L), some (.int (at_ + r + 1)), some x, some (.lst (xs.map .str)), some (.ptr R), some (.lst [.int p, .int q])])) (m := m6.set R (.lst (ts.map tieD ++ [tieD (at_ + r, p, y, q)]))) (by simp -implicitDefEqProofs) ?_
    refine ⟨ts ++ [(at_ + r, p, y, q)], at_ + r + 1, some x, some (.lst [.int p, .int q]), rfl, ?_, by simp [hlen], by rw [List.getElem?_set_ne hLR.symm]; exact l6, by rw [List.getElem?_set_self (lt_of r6), List.map_append]; rfl, ?_⟩
    · have := hP.more ⟨r0, r1⟩ z2 hpm hqm (hxn y hym)
      rw [show ((i + 1 : Nat) : Int) = (i : Int) + 1 by omega]
      exact this
    · obtain ⟨cs, k, c, st, q, e, rr⟩ := B6.bag
      exact ⟨cs, k, c, st, q, by rw [List.getElem?_set_ne hRb]; exact e, rr⟩
  · rintro ⟨fl, env'⟩ m2 h
    cases fl with
    | nx =>
      rcases h with ⟨ts, at_, e6, e9, rfl, hP, hlen, r⟩ | h
      · have e : ((List.range N).map fun (k : Nat) => D.int (0 + (k : Int))).length = N := by simp
        rw [e] at hP hlen
        exact ⟨rfl, ts, at_, e6, e9, rfl, hP, hlen, r⟩
      · exact h.elim
    | brk => exact h.elim
    | cont => exact h.elim
    | ret d => exact h.elim
theorem web_names (hb : Bag b m) {e1 e2 e3 e4 e5 e6 e8 e9 : Option D} :
    OK (compE endL (rngSrc1 (binE (cE (.int 1)) (appE (consA (varE 0) (consA (cE (.int 4)) nilA)) (callP 2 sem__law_draw)) addD)) (nameT 6) yesT (appE (consA (varE 0) nilA) (callP 1 sem__law_name)) [6] [some (.ptr b), e1, e2, e3, e4, e5, e6, none, e8, e9] m)
      fun d m' => ∃ xs : List Str, d = .lst (xs.map .str) ∧ (1 ≤ xs.length ∧ xs.length ≤ 4) ∧ (∀ x ∈ xs, Nm x) ∧ Bg b m m' := by
  obtain ⟨_, m1, d1, r, rfl, r0, r1, B1⟩ := draw_ok hb (many := 4) (by decide) (by decide)
  obtain ⟨r, rfl⟩ := Int.eq_ofNat_of_zero_le r0
  have c1 : (-4611686018427387904 : Int) ≤ 1 + (r : Int) := by omega
  have c2 : 1 + (r : Int) < 4611686018427387904 := by omega
  have c3 : (1 + (r : Int)).toNat = r + 1 := by omega
  refine comp_ok (P := fun s m' => s.nx = (fun i _ => rngNx 0 (r + 1) i) ∧ s.n = r + 2 ∧ m' = m1) (by simp -implicitDefEqProofs [d1, c1, c2, c3]) ?_
  rintro s m' ⟨hs1, hs2, rfl⟩
  rw [hs1, hs2]
  refine (comp_inv ((List.range (r + 1)).map fun (k : Nat) => D.int (0 + (k : Int))) (fun i acc m2 => ∃ xs : List Str, acc = xs.map .str ∧ xs.length = i ∧ (∀ x ∈ xs, Nm x) ∧ Bg b m' m2) (fun i acc m _ _ => rngNx_eq 0 (r + 1) i)
    (fun i acc m _ hI => by obtain ⟨ys, rfl, h, _⟩ := hI; simp [h]) (by simp; omega) (fun i x acc m2 hx hI => ?_) (r + 2) 0 [] m' (by simp) (by simp) ⟨[], rfl, rfl, (fun _ h => nomatch h), Bg.refl B1.bag⟩).mono ?_
  · obtain ⟨xs, rfl, hl, hn, g⟩ := hI
    obtain ⟨_, m3, e, y, rfl, hy, g3⟩ := name_ok g.bag
    refine OK.noExc ?_
    simp -implicitDefEqProofs [e]
    refine ⟨xs ++ [y], by simp, by simp [hl], fun z hz => ?_, g.trans g3⟩
    rcases List.mem_append.mp hz with q | q
    · exact hn z q
    · obtain rfl : z = y := by simpa using q
      exact hy
  · rintro acc m2 ⟨xs, rfl, hl, hn, g⟩
    have hl' : xs.length = r + 1 := by simpa using hl
    exact OK.pure ⟨xs, rfl, ⟨by omega, by omega⟩, hn, B1.trans g⟩
structure Drawn (b P T : Nat) (m : MS) (ps : List Int) (ts : List Tie) : Prop where
  p : m[P]? = some (.lst (ps.map .int))
  t : m[T]? = some (.lst (ts.map tieD))
  np : P ≠ b
  nt : T ≠ b
  bag : Bag b m
  bd : Bd ps ts
  sp : nxt ps ≤ 3000000000000
  st : nxt (ts.map (·.1)) ≤ 3000000000000
theorem law_web_ok (hb : Bag b m) (hp : np ≤ 60) (ht : nt ≤ 200) (hf : 0 ≤ far ∧ far < 4) : OK (sem__law_web [.ptr b, .int np, .int nt, .int far] m) fun d m' => ∃ P T ps ts, d = .tup [.ptr P, .ptr T] ∧ Drawn b P T m' ps ts := by
  have hbl : b < m.length := by obtain ⟨_, _, _, _, _, e, _⟩ := hb; exact lt_of e
  have bp : ∀ {m : MS} (l : MS), Bag b m → Bag b (m ++ l) := fun {m} l h => by
    obtain ⟨cs, k, c, st, q, e, rr⟩ := h
    exact ⟨cs, k, c, st, q, by rw [List.getElem?_append_left (lt_of e)]; exact e, rr⟩
  rw [sem__law_web_eq]
  refine run_ok ?_
  unfold B__law_web
  refine seq_nx (env' := [some (.ptr b), some (.int np), some (.int nt), some (.int far), some (.ptr m.length), none, none, none, none, none]) (ms1 := m ++ [.lst []]) (by simp -implicitDefEqProofs) ?_
  refine seq_nx (env' := [some (.ptr b), some (.int np), some (.int nt), some (.int far), some (.ptr m.length), some (.int 0), none, none, none, none]) (ms1 := m ++ [.lst []]) (by simp -implicitDefEqProofs) ?_
  have hL0 : (m ++ [Cell.lst []])[m.length]? = some (.lst []) := by simp
  have hb1 := bp [.lst []] hb
  have hLb : m.length ≠ b := by omega
  generalize hLn : m.length = L at hL0 hLb
  generalize m ++ [Cell.lst []] = m1 at hL0 hb1
  refine seq_ok (P := fun env m' => ∃ ps at_ e6, env = [some (.ptr b), some (.int np), some (.int nt), some (.int far), some (.ptr L), some (.int at_), e6, none, none, none] ∧ Pd np at_ ps ∧ ps.length = np ∧ m'[L]? = some (.lst (ps.map .int)) ∧ Bag b m') (web_places hb1 hL0 hLb hp hf) ?_
  rintro env m2 ⟨ps, at_, e6, rfl, hP, hps, hl2, hb2⟩
  refine seq_ok (P := fun env m' => ∃ xs : List Str, env = [some (.ptr b), some (.int np), some (.int nt), some (.int far), some (.ptr L), some (.int at_), e6, some (.lst (xs.map .str)), none, none] ∧ (1 ≤ xs.length ∧ xs.length ≤ 4) ∧ (∀ x ∈ xs, Nm x) ∧ Bg b m2 m') (set_ok ((web_names hb2).mono ?_)) ?_
  · rintro d m' ⟨xs, rfl, r⟩
    exact ⟨rfl, xs, rfl, r⟩
  rintro env m3 ⟨xs, rfl, hx, hxn, B3⟩
  have hl3 : m3[L]? = some (.lst (ps.map .int)) := by rw [B3.rest L hLb]; exact hl2
  have hb3 := B3.bag
  refine seq_nx (env' := [some (.ptr b), some (.int np), some (.int nt), some (.int far), some (.ptr L), some (.int at_), e6, some (.lst (xs.map .str)), some (.ptr m3.length), none]) (ms1 := m3 ++ [.lst []]) (by simp -implicitDefEqProofs) ?_
  refine seq_nx (env' := [some (.ptr b), some (.int np), some (.int nt), some (.int far), some (.ptr L), some (.int 0), e6, some (.lst (xs.map .str)), some (.ptr m3.length), none]) (ms1 := m3 ++ [.lst []]) (by simp -implicitDefEqProofs) ?_
  have hl4 : (m3 ++ [Cell.lst []])[L]? = some (.lst (ps.map .int)) := by rw [List.getElem?_append_left (lt_of hl3)]; exact hl3
  have hR4 : (m3 ++ [Cell.lst []])[m3.length]? = some (.lst []) := by simp
  have hb4 := bp [.lst []] hb3
  have hRb : m3.length ≠ b := by have : b < m3.length := by { obtain ⟨_, _, _, _, _, e, _⟩ := hb3; exact lt_of e }; omega
  have hLR : L ≠ m3.length := by have := lt_of hl3; omega
  generalize m3.length = R at hR4 hRb hLR
  generalize m3 ++ [Cell.lst []] = m4 at hl4 hR4 hb4
  obtain ⟨N, hN, hN2, hN3⟩ : ∃ N : Nat, (nt : Int) * (if 0 < np then 1 else 0) = N ∧ N ≤ 200 ∧ (0 < N → 0 < np) := by
    by_cases h : 0 < np
    · exact ⟨nt, by rw [if_pos h]; omega, ht, fun _ => h⟩
    · exact ⟨0, by rw [if_neg h]; omega, by omega, fun z => by omega⟩
  refine seq_ok (P := fun env m' => ∃ ts at_ e6 e9, env = [some (.ptr b), some (.int np), some (.int nt), some (.int far), some (.ptr L), some (.int at_), e6, some (.lst (xs.map .str)), some (.ptr R), e9] ∧ Td ps N at_ ts ∧ ts.length = N ∧ m'[L]? = some (.lst (ps.map .int)) ∧ m'[R]? = some (.lst (ts.map tieD)) ∧ Bag b m')
    (web_ties (N := N) hb4 hl4 hR4 hLb hRb hLR hps hp hN2 hN3 hf hx hxn (by
      by_cases h : 0 < np
      · rw [if_pos h] at hN
        have h' : (0 : Int) < np := by omega
        simp -implicitDefEqProofs [h', h, ← hN]
      · rw [if_neg h] at hN
        have h' : ¬ (0 : Int) < np := by omega
        simp -implicitDefEqProofs [h', h, ← hN])) ?_
  rintro env m5 ⟨ts, at5, e6, e9, rfl, hT, hts, hl5, hR5, hb5⟩
  refine OK_of (a := (.ret (.tup [.ptr L, .ptr R]), [some (.ptr b), some (.int np), some (.int nt), some (.int far), some (.ptr L), some (.int at5), e6, some (.lst (xs.map .str)), some (.ptr R), e9])) (m := m5) (by simp -implicitDefEqProofs) ?_
  have a1 := hP.a1
  have a0 := hP.a0
  have t1 := hT.p.a1
  have t0 := hT.p.a0
  refine ⟨L, R, ps, ts, rfl, hl5, hR5, hLb, hRb, hb5, ⟨⟨fun p hp => ?_, fun t ht => ?_, by omega, by omega⟩, hP.pr, hT.p.pr, fun t ht => (hT.te t ht).1, by omega, by omega⟩, ?_, ?_⟩
  · have := hP.lo p hp; omega
  · obtain ⟨⟨q1, q2⟩, q3⟩ := hT.te t ht
    have w1 := hP.lo _ q1
    have w2 := hP.lo _ q2
    have w3 := hT.p.lo t.1 (List.mem_map.mpr ⟨t, ht, rfl⟩)
    exact ⟨by omega, by omega, q3, by omega⟩
  · have := nxt_le a0 fun p hp => (hP.lo p hp).2
    omega
  · have := nxt_le t0 fun p hp => (hT.p.lo p hp).2
    omega
end
end LW

set_option maxHeartbeats 4000000
namespace LW
open PySem PySem.Spec L2 DL
open PyProof.Rows hiding St

/-! ### loops that run to their end -/
section
variable {g : DL.Env → MS → Res Src} {f : DL.Env → MS → Res D} {T : TF} {B : SF} {env : DL.Env} {ms ms1 : MS}
theorem for_go (items : List D) (I : Nat → DL.Env → MS → Prop) (hg : OK (g env ms) fun s m => s.n = items.length + 1 ∧ I 0 env m ∧ ∀ i e m2, I i e m2 → s.nx i m2 = nxOf (some items) i)
    (hs : ∀ i x env ms, items[i]? = some x → I i env ms → OK (turnOf T B x env ms) fun a ms' => a.1 = .nx ∧ I (i + 1) a.2 ms') :
    OK (forS g T B env ms) fun a m => a.1 = .nx ∧ I items.length a.2 m := by
  refine for_ok _ hg ?_
  rintro s m ⟨h1, h2, h3⟩
  rw [h1]
  refine (for_inv items I (fun _ _ => False) (fun _ _ => False) (fun i e m2 _ hI => h3 i e m2 hI) (fun i x env ms hx hI => (hs i x env ms hx hI).mono ?_) (items.length + 1) 0 env m (by omega) (by omega) h2).mono ?_
  · rintro ⟨fl, e⟩ m' ⟨rfl, q⟩
    exact q
  · rintro ⟨fl, e⟩ m' h
    cases fl with
    | nx =>
      rcases h with h | h
      · exact ⟨rfl, h⟩
      · exact h.elim
    | brk => exact h.elim
    | cont => exact h.elim
    | ret d => exact h.elim
theorem for_rng (N : Nat) (I : Nat → DL.Env → MS → Prop) (hf : f env ms = .ok (.int N) ms1) (hN : N ≤ 100000) (h0 : I 0 env ms1)
    (hs : ∀ (i : Nat) env ms, i < N → I i env ms → OK (turnOf T B (.int i) env ms) fun a ms' => a.1 = .nx ∧ I (i + 1) a.2 ms') :
    OK (forS (rngSrc1 f) T B env ms) fun a m => a.1 = .nx ∧ I N a.2 m := by
  have c1 : (-4611686018427387904 : Int) ≤ N := by omega
  have c2 : (N : Int) < 4611686018427387904 := by omega
  refine (for_go ((List.range N).map fun (k : Nat) => D.int (0 + (k : Int))) I ?_ (fun i x env ms hx hI => ?_)).mono ?_
  · refine OK_of (a := ⟨[], fun i _ => rngNx 0 N i, N + 1⟩) (m := ms1) (by simp -implicitDefEqProofs [hf, c1, c2]) ⟨by simp, h0, fun i e m2 _ => rngNx_eq 0 N i⟩
  · have hi : i < N := by
      have := (List.getElem?_eq_some_iff.mp hx).1
      simpa using this
    have e : x = .int i := by
      rw [List.getElem?_map, List.getElem?_range hi] at hx
      simp at hx
      exact hx.symm
    rw [e]
    exact hs i env ms hi hI
  · rintro ⟨fl, e⟩ m' h
    simpa using h
theorem for_lst {α : Type} {d : D} (l : List α) (it : α → D) (I : Nat → DL.Env → MS → Prop) (hf : f env ms = .ok d ms1) (hr : ∀ i e m2, I i e m2 → rlOf m2 d = some (l.map it)) (h0 : I 0 env ms1)
    (hs : ∀ (i : Nat) x env ms, l[i]? = some x → I i env ms → OK (turnOf T B (it x) env ms) fun a ms' => a.1 = .nx ∧ I (i + 1) a.2 ms') :
    OK (forS (lstSrc f) T B env ms) fun a m => a.1 = .nx ∧ I l.length a.2 m := by
  have h1 := hr _ _ _ h0
  refine (for_go (l.map it) I ?_ (fun i x env ms hx hI => ?_)).mono ?_
  · refine OK_of (a := ⟨[d], fun i m => nxOf (rlOf m d) i, (l.map it).length + 1⟩) (m := ms1) ?_ ⟨rfl, h0, fun i e m2 hI => by show nxOf (rlOf m2 d) i = _; rw [hr _ _ _ hI]⟩
    unfold lstSrc
    rw [hf]
    simp only [bind_ok, h1]
  · rw [List.getElem?_map] at hx
    cases q : l[i]? with
    | none => rw [q] at hx; cases hx
    | some y =>
      rw [q] at hx
      cases hx
      exact hs i y env ms q hI
  · rintro ⟨fl, e⟩ m' h
    simpa using h
theorem slice_l {d : D} {X : List D} (hf : f env ms = .ok d ms) (hd : IsL ms d X) (hl : X.length ≤ 16777216) (k : Nat) : sliceE mkLst f nonO (someO (cE (.int (k : Int)))) env ms = .ok (.lst (X.take k)) ms := by
  have h1 : DL.cutD X none (some (k : Int)) = X.take k := by
    unfold DL.cutD
    rw [HT.sIx_none, HT.sIx_nat, List.drop_zero, Nat.sub_zero]
    by_cases h : k ≤ X.length
    · rw [Nat.min_eq_left h]
    · rw [Nat.min_eq_right (by omega), List.take_length, List.take_of_length_le (by omega)]
  have h2 : min k X.length ≤ 16777216 := by omega
  unfold sliceE
  rw [hf]
  have h3 := hd.rl
  rcases hd with rfl | ⟨n, rfl, hn⟩
  · simp -implicitDefEqProofs [h1, h2]
  · simp -implicitDefEqProofs [h1, h2, hn]
end
section
variable {b w k : Nat} {c1 c2 : Col} {m1 m2 : MS} {W : Web}
theorem alike_pl {d : D} (hP : IsL m1 d (W.ps.map .int)) (st : StOk W.stand) : sem__law_alike 5 [.ptr m1.length, d] (m1 ++ [.lst (W.ps.map .int)]) = .ok (.bl true) (m1 ++ [.lst (W.ps.map .int)]) := by
  have f : W.ps.length ≤ 1000 := st.few.1
  exact alike_ok 5 _ _ (alk_ints (l := W.ps) (.inr ⟨_, rfl, by simp⟩) (hP.push _) (by omega))
theorem alike_ti {d : D} (hP : IsL m1 d (W.ts.map tieD)) (st : StOk W.stand) : sem__law_alike 5 [.ptr m1.length, d] (m1 ++ [.lst (W.ts.map tieD)]) = .ok (.bl true) (m1 ++ [.lst (W.ts.map tieD)]) := by
  have f : W.ts.length ≤ 1000 := st.few.2
  exact alike_ok 5 _ _ (alk_ties (l := W.ts) (.inr ⟨_, rfl, by simp⟩) (hP.push _) (by omega))
theorem alike_num (i : Int) (m : MS) : sem__law_alike 5 [.int i, .int i] m = .ok (.bl true) m := alike_ok 5 _ _ (alk_plain rfl)
theorem ties_at_c {p : Int} (h : WebC k c1 m1 w W) (st : StOk W.stand) (hp : p ∈ W.ps) : sem_Web_ties_at [.ptr w, .int p] m1 = .ok (.ptr (m1.length + 1)) (m1 ++ [.lst (W.ts.map tieD), .lst ((W.ts.filter (atP p)).map fun t => .int t.1)]) := by
  obtain ⟨a, b, c, hw, _⟩ := h
  exact ties_at_ok hw st hp
theorem ends_c {t : Tie} (h : WebC k c1 m1 w W) (st : StOk W.stand) (ht : t ∈ W.ts) : sem_Web_ends_of [.ptr w, .int t.1] m1 = .ok (endD t) m1 := by
  obtain ⟨a, b, c, hw, _⟩ := h
  exact ends_ok hw st ht
theorem has_at (p : Int) (t : Tie) : hasD (.int p) [.int t.2.1, .int t.2.2.2] = atP p t := by
  cases q : atP p t with
  | true =>
    unfold atP at q
    simp only [Bool.or_eq_true, decide_eq_true_eq] at q
    simp [hasD, flV, eqV]
    rcases q with q | q
    · exact .inl q.symm
    · exact .inr q.symm
  | false =>
    unfold atP at q
    simp only [Bool.or_eq_false_iff, decide_eq_false_iff_not] at q
    simp [hasD, flV, eqV]
    exact ⟨fun e => q.1 e.symm, fun e => q.2 e.symm⟩
theorem tail_tie (t : Tie) (m : MS) : slD mkLst (tieD t) (some 1) none m = .ok (endD t) m := by
  have h : ¬ (HT.sIx 4 0 (some 1) = 0 ∧ HT.sIx 4 4 none = 4) := by decide
  have e : DL.cutD [.int t.1, .int t.2.1, .str t.2.2.1, .int t.2.2.2] (some 1) none = [.int t.2.1, .str t.2.2.1, .int t.2.2.2] := rfl
  unfold tieD endD slD
  simp only [List.length_cons, List.length_nil]
  rw [if_neg h, e]
theorem nm_ok {x : Str} (h : Nm x) : PyData.strOk x = true := by
  unfold PyData.strOk
  rw [← Array.all_toList, List.all_eq_true]
  intro c hc
  have := h.low c hc
  simp
  omega
theorem tie_ne {ts : List Tie} (hr : (ts.map (·.1)).Pairwise (· < ·)) (h : ∀ t ∈ ts, Nm t.2.2.1) {t g : Tie} (ht : t ∈ ts) (hg : g ∈ ts) (m : MS) : neG (tieD t) (tieD g) m = .ok (.bl (decide (t.1 ≠ g.1))) m := by
  have o1 : okD 1 (tieD t) = true := by have := nm_ok (h t ht); simp [tieD, okD, okDs, this]
  have o2 : okD 1 (tieD g) = true := by have := nm_ok (h g hg); simp [tieD, okD, okDs, this]
  by_cases e : t.1 = g.1
  · have : t = g := by
      have v1 := val_ti hr ht
      have v2 := val_ti hr hg
      rw [e, v2] at v1
      injection v1 with v1
      obtain ⟨a, b, x, c⟩ := t
      obtain ⟨a', b', x', c'⟩ := g
      simp only [endD, D.tup.injEq, List.cons.injEq, D.int.injEq, D.str.injEq, and_true] at v1
      obtain ⟨rfl, rfl, rfl⟩ := v1
      simp only at e
      rw [e]
    subst this
    rw [(eqG_self (k := 1) (a := tieD t) (b := tieD t) (ms := m) rfl o1 (by decide)).2]
    simp
  · have hne : rdD m (tieD t) ≠ rdD m (tieD g) := fun z => e (by
      have z' : tieD t = tieD g := z
      simp only [tieD, D.tup.injEq, List.cons.injEq, D.int.injEq] at z'
      exact z'.1)
    rw [(eqG_ne (k := 1) hne o1 o2 rfl rfl (by decide)).2]
    simp [e]
theorem no_mark_ok (hw : WebC k c1 m1 w W) (st : WOk W) (hm : W.mks = []) : sem__law_no_mark [.ptr w] m1 = .ok (.bl true) m1 := by
  obtain ⟨a, b, c, hw, _⟩ := hw
  obtain ⟨env, e⟩ := undo_no (p := 0) hw st (by rw [hm]; simp) (by unfold Sm; decide)
  have ho := hw.o
  simp -implicitDefEqProofs [sem__law_no_mark_eq, B__law_no_mark, ho, e]
end
end LW

set_option maxHeartbeats 4000000
namespace LW
open PySem PySem.Spec L2 DL
open PyProof.Rows hiding St

section
variable {b w k : Nat} {c1 c2 : Col} {m1 m2 : MS} {W : Web}
theorem ends_right_ok {P T : Nat} (hb : BagC c1 m1 b) (hw : WebC k c1 m1 w W) (hk : k ≠ 0) (st : StOk W.stand) (hP : m1[P]? = some (.lst (W.ps.map .int))) (hT : m1[T]? = some (.lst (W.ts.map tieD))) (kP : c1 P = 9) (kT : c1 T = 9) :
    ∃ m2, sem__law_ends_right [.ptr b, .ptr w, .ptr P, .ptr T] m1 = .ok (.bl true) m2 ∧ BagC c1 m2 b ∧ Stp [0] c1 m1 m2 c1 := by
  have f1 : W.ps.length ≤ 1000 := st.few.1
  have f2 : W.ts.length ≤ 1000 := st.few.2
  suffices z : OK (sem__law_ends_right [.ptr b, .ptr w, .ptr P, .ptr T] m1) fun d m2 => d = .bl true ∧ BagC c1 m2 b ∧ Stp [0] c1 m1 m2 c1 by
    obtain ⟨_, m2, e, rfl, r⟩ := z
    exact ⟨m2, e, r⟩
  rw [sem__law_ends_right_eq]
  refine run_ok ?_
  unfold B__law_ends_right
  refine seq_ok (P := fun env m2 => (∃ e4 e5, env = [some (.ptr b), some (.ptr w), some (.ptr P), some (.ptr T), e4, e5, none, none]) ∧ BagC c1 m2 b ∧ Stp [0] c1 m1 m2 c1) ?_ ?_
  · refine for_lst (W.ps.take 5) D.int (fun _ env m2 => (∃ e4 e5, env = [some (.ptr b), some (.ptr w), some (.ptr P), some (.ptr T), e4, e5, none, none]) ∧ BagC c1 m2 b ∧ Stp [0] c1 m1 m2 c1) (d := .lst ((W.ps.take 5).map .int)) (ms1 := m1) ?_ (fun _ _ _ _ => rfl) ⟨⟨none, none, rfl⟩, hb, (Stp.refl (ks := [])).sub (by simp)⟩ ?_
    · rw [List.map_take]
      exact slice_l (d := .ptr P) rfl (.inr ⟨P, rfl, hP⟩) (by simp; omega) 5
    · rintro i p env m hp ⟨⟨e4, e5, rfl⟩, hB, hS⟩
      have hpm : p ∈ W.ps := List.mem_of_mem_take (List.mem_of_getElem? hp)
      have hw' := hw.keep hS (by simpa using hk)
      have hT' := hS.get hT (by rw [kT]; simp)
      have ea := ties_at_c hw' st hpm
      obtain ⟨xa, xb, xc, ho⟩ := hw'.obj
      have e1 := comp_lf (mk := endL) (f := varE 3) (t := (valT (binE (varE 4) (appE (consA (binE (varE 7) (cE (.int 1)) idxD) (consA (binE (varE 7) (cE (.int 3)) idxD) nilA)) mkLst) (inD false)))) (T := nameT 7) (vs := [7]) (e := (binE (varE 7) (cE (.int 0)) idxD)) (env := [some (.ptr b), some (.ptr w), some (.ptr P), some (.ptr T), some (.int p), e5, none, none]) (ms := m) W.ts (atP p) tieD (fun t => .int t.1) rfl (.inr ⟨T, rfl, hT'⟩) (by omega) (fun t ht => by
        have q' := has_at p t
        cases q : atP p t with
        | true => rw [q] at q'; simp -implicitDefEqProofs [tieD, flatD, q']
        | false => rw [q] at q'; simp -implicitDefEqProofs [tieD, flatD, q'])
      have e1' : compE endL (lstSrc (varE 3)) (nameT 7) (valT (binE (varE 4) (appE (consA (binE (varE 7) (cE (.int 1)) idxD) (consA (binE (varE 7) (cE (.int 3)) idxD) nilA)) mkLst) (inD false))) (binE (varE 7) (cE (.int 0)) idxD) [7] [some (.ptr b), some (.ptr w), some (.ptr P), some (.ptr T), some (.int p), e5, none, none] m = .ok (.lst ((W.ts.filter (atP p)).map fun t => .int t.1)) m := e1
      have fl : (W.ts.filter (atP p)).length ≤ 1000 := by have := (List.filter_sublist (l := W.ts) (p := atP p)).length_le; omega
      have ha : sem__law_alike 5 [.ptr (m.length + 1), .lst ((W.ts.filter (atP p)).map fun t => .int t.1)] (m ++ [.lst (W.ts.map tieD), .lst ((W.ts.filter (atP p)).map fun t => .int t.1)]) = .ok (.bl true) (m ++ [.lst (W.ts.map tieD), .lst ((W.ts.filter (atP p)).map fun t => .int t.1)]) := by
        have em : ((W.ts.filter (atP p)).map fun t => D.int t.1) = ((W.ts.filter (atP p)).map (·.1)).map .int := by rw [List.map_map]; rfl
        rw [em]
        exact alike_ok 5 _ _ (alk_ints (.inr ⟨_, rfl, by rw [List.getElem?_append_right (by omega)]; simp⟩) (.inl rfl) (by simp; omega))
      refine turn_name ?_
      show OK (seqS _ _ [some (.ptr b), some (.ptr w), some (.ptr P), some (.ptr T), some (.int p), e5, none, none] m) _
      refine seq_nx (env' := [some (.ptr b), some (.ptr w), some (.ptr P), some (.ptr T), some (.int p), some (.lst ((W.ts.filter (atP p)).map fun t => .int t.1)), none, none]) (ms1 := m) (by
        generalize compE endL (lstSrc (varE 3)) (nameT 7) (valT (binE (varE 4) (appE (consA (binE (varE 7) (cE (.int 1)) idxD) (consA (binE (varE 7) (cE (.int 3)) idxD) nilA)) mkLst) (inD false))) (binE (varE 7) (cE (.int 0)) idxD) [7] = C at e1' ⊢
        simp -implicitDefEqProofs [e1']) ?_
      obtain ⟨m', hm'⟩ : ∃ m' : MS, m' = m ++ [.lst (W.ts.map tieD), .lst ((W.ts.filter (atP p)).map fun t => .int t.1)] := ⟨_, rfl⟩
      rw [← hm'] at ea ha
      generalize ((W.ts.filter (atP p)).map fun t => D.int t.1) = X at ea ha hm' ⊢
      refine OK_of (a := (.nx, [some (.ptr b), some (.ptr w), some (.ptr P), some (.ptr T), some (.int p), some (.lst X), none, none])) (m := m') (by simp -implicitDefEqProofs [ho, ea, ha]) ⟨rfl, ⟨_, _, rfl⟩, by rw [hm']; exact hB.push _, by rw [hm']; exact (hS.trans (Stp.push (ks := []) _)).sub (by simp)⟩
  rintro env m2 ⟨⟨e4, e5, rfl⟩, hB2, hS2⟩
  have hT2 := hS2.get hT (by rw [kT]; simp)
  obtain ⟨N, hN, hN1, hN2⟩ : ∃ N : Nat, (if (W.ts.length : Int) < 3 then (W.ts.length : Int) else 3) = N ∧ N ≤ 3 ∧ (0 < N → 0 < W.ts.length) := by
    by_cases h : (W.ts.length : Int) < 3
    · exact ⟨W.ts.length, by rw [if_pos h], by omega, id⟩
    · exact ⟨3, by rw [if_neg h]; rfl, by omega, fun _ => by omega⟩
  have f3 : W.ts.length ≤ 16777216 := by omega
  refine seq_ok (P := fun env m2 => (∃ e4 e5 e6 e7, env = [some (.ptr b), some (.ptr w), some (.ptr P), some (.ptr T), e4, e5, e6, e7]) ∧ BagC c1 m2 b ∧ Stp [0] c1 m1 m2 c1) ?_ ?_
  · refine for_rng N (fun _ env m2 => (∃ e4 e5 e6 e7, env = [some (.ptr b), some (.ptr w), some (.ptr P), some (.ptr T), e4, e5, e6, e7]) ∧ BagC c1 m2 b ∧ Stp [0] c1 m1 m2 c1) (ms1 := m2) (by simp -implicitDefEqProofs [hT2, f3, hN]) (by omega) ⟨⟨e4, e5, none, none, rfl⟩, hB2, hS2⟩ ?_
    rintro i env m hi ⟨⟨e4, e5, e6, e7, rfl⟩, hB, hS⟩
    have hpos := hN2 (by omega)
    obtain ⟨_, m3, d3, r, rfl, r0, r1, B3⟩ := draw_ok hB.1 (many := (W.ts.length : Int)) (by omega) (by omega)
    have hS3 := (hS.trans (hB.stp B3)).sub (ks' := [0]) (by simp)
    have hTm := hS.get hT (by rw [kT]; simp)
    have hT3 := hS3.get hT (by rw [kT]; simp)
    have hw3 := hw.keep hS3 (by simpa using hk)
    obtain ⟨xa, xb, xc, ho⟩ := hw3.obj
    obtain ⟨t, ht, htm⟩ := atL (l := W.ts) r0 r1 tieD
    have ee := ends_c hw3 st htm
    have ha : sem__law_alike 5 [endD t, endD t] m3 = .ok (.bl true) m3 := alike_ok 5 _ _ (alk_end t)
    have hs := tail_tie t m3
    refine turn_name ?_
    show OK (seqS _ _ [some (.ptr b), some (.ptr w), some (.ptr P), some (.ptr T), e4, e5, some (.int i), e7] m) _
    refine seq_nx (env' := [some (.ptr b), some (.ptr w), some (.ptr P), some (.ptr T), e4, e5, some (.int i), some (tieD t)]) (ms1 := m3) (by simp -implicitDefEqProofs [hTm, hT3, f3, d3, ht]) ?_
    have hi0 : idxD (tieD t) (.int 0) m3 = .ok (.int t.1) m3 := by simp -implicitDefEqProofs [tieD]
    refine OK_of (a := (.nx, [some (.ptr b), some (.ptr w), some (.ptr P), some (.ptr T), e4, e5, some (.int i), some (tieD t)])) (m := m3) (by
      have hx : sliceE mkLst (varE 7) (someO (cE (.int 1))) nonO [some (.ptr b), some (.ptr w), some (.ptr P), some (.ptr T), e4, e5, some (.int i), some (tieD t)] m3 = .ok (endD t) m3 := hs
      have hy : binE (varE 7) (cE (.int 0)) idxD [some (.ptr b), some (.ptr w), some (.ptr P), some (.ptr T), e4, e5, some (.int i), some (tieD t)] m3 = .ok (.int t.1) m3 := hi0
      generalize sliceE mkLst (varE 7) (someO (cE (.int 1))) nonO = S at hx ⊢
      generalize binE (varE 7) (cE (.int 0)) idxD = I at hy ⊢
      simp -implicitDefEqProofs [ho, hx, hy, ee, ha]) ⟨rfl, ⟨_, _, _, _, rfl⟩, hB.go B3, hS3⟩
  rintro env m3 ⟨⟨e4, e5, e6, e7, rfl⟩, hB3, hS3⟩
  exact OK_of (a := (Fl.ret (.bl true), [some (.ptr b), some (.ptr w), some (.ptr P), some (.ptr T), e4, e5, e6, e7])) (m := m3) (by simp -implicitDefEqProofs) ⟨rfl, hB3, hS3⟩
end
end LW

set_option maxHeartbeats 4000000
namespace LW
open PySem PySem.Spec L2 DL
open PyProof.Rows hiding St

theorem atI_last {α : Type} (xs : List α) (x : α) : atI (xs ++ [x]) (-1) = some x := by
  unfold atI ixN
  rw [if_neg (by decide), List.length_append, List.length_singleton]
  rw [if_pos (by omega)]
  have : ((-1 : Int) + ((xs.length + 1 : Nat) : Int)).toNat = xs.length := by omega
  simp only [Option.bind_some, this]
  simp
/-! ### lists of the law's own, as data or in cells -/
section
variable {env : DL.Env} {m m' : MS} {A : D} {X Y : List D} {i b : Nat} {c1 : Col} {g f : DL.Env → MS → Res D}
theorem set_nx {d : D} (h : f env m = .ok d m') : setS i f env m = .ok (.nx, env.set i (some d)) m' := by
  unfold setS
  rw [h]
  rfl
theorem var_at (hi : env[i]? = some (some A)) : varE i env m = .ok A m := by
  unfold varE
  rw [hi]
  first | done | rfl
theorem len_l (hi : env[i]? = some (some A)) (hA : IsL m A X) (hl : X.length ≤ 16777216) : appE (consA (varE i) nilA) lenP env m = .ok (.int X.length) m := by
  have e := var_at (m := m) hi
  generalize varE i = v at e ⊢
  rcases hA with rfl | ⟨n, rfl, hn⟩
  · simp -implicitDefEqProofs [e, hl]
  · simp -implicitDefEqProofs [e, hl, hn]
theorem idx_l {y : D} {j : Int} (hi : env[i]? = some (some A)) (hg : g env m = .ok (.int j) m') (hA : IsL m' A X) (hj : atI X j = some y) : binE (varE i) g idxD env m = .ok y m' := by
  have e := var_at (m := m) hi
  generalize varE i = v at e ⊢
  rcases hA with rfl | ⟨n, rfl, hn⟩
  · simp -implicitDefEqProofs [e, hg, hj]
  · simp -implicitDefEqProofs [e, hg, hj, hn]
theorem add_l (hi : env[i]? = some (some A)) (hg : g env m = .ok (.lst Y) m) (hA : IsL m A X) (hl : X.length + Y.length ≤ 16777216) : binE (varE i) g addD env m = .ok (.lst (X ++ Y)) m := by
  have e := var_at (m := m) hi
  have hl' : (X ++ Y).length ≤ 16777216 := by rw [List.length_append]; exact hl
  generalize varE i = v at e ⊢
  rcases hA with rfl | ⟨n, rfl, hn⟩
  · simp -implicitDefEqProofs [e, hg, hl]
  · simp -implicitDefEqProofs [e, hg, hl, hn]
theorem ne_l (hi : env[i]? = some (some A)) (hA : IsL m A X) (hk : okDs 2 X = true) : valT (binE (varE i) (appE nilA mkLst) neD) env m = .ok (!X.isEmpty) m := by
  have e := var_at (m := m) hi
  have h2 := (eqG_nil (a := A) (ds := X) (ms := m) (k := 2) hA.rd hk (by decide)).2
  generalize varE i = v at e ⊢
  rcases hA with rfl | ⟨n, rfl, hn⟩
  · simp -implicitDefEqProofs [e, h2]
  · simp -implicitDefEqProofs [e, h2]
theorem pick_l {α : Type} {l : List α} {it : α → D} (h0 : env[0]? = some (some (.ptr b))) (hi : env[i]? = some (some A)) (hb : BagC c1 m b) (hA : LsC c1 m A (l.map it)) (hl : 0 < l.length ∧ l.length ≤ 1000) :
    ∃ x m3, x ∈ l ∧ binE (varE i) (appE (consA (varE 0) (consA (appE (consA (varE i) nilA) lenP) nilA)) (callP 2 sem__law_draw)) idxD env m = .ok (it x) m3 ∧ Bg b m m3 := by
  obtain ⟨_, m3, d3, r, rfl, r0, r1, B3⟩ := draw_ok hb.1 (many := (l.length : Int)) (by omega) (by omega)
  obtain ⟨x, hx, hm⟩ := atL (l := l) r0 r1 it
  refine ⟨x, m3, hm, idx_l hi ?_ (hA.draw hb B3).is hx, B3⟩
  have e0 := var_at (m := m) h0
  have e1 := len_l (m := m) hi hA.is (by simp; omega)
  generalize varE 0 = v at e0 ⊢
  generalize appE (consA (varE i) nilA) lenP = w at e1 ⊢
  have e2 : (l.map it).length = l.length := List.length_map _
  rw [e2] at e1
  simp -implicitDefEqProofs [e0, e1, d3]
theorem ok_ints (k : Nat) (l : List Int) : okDs k (l.map D.int) = true := ints_ok1 k l
theorem ok_ties {ts : List Tie} (h : ∀ t ∈ ts, Nm t.2.2.1) : okDs 2 (ts.map tieD) = true := by
  rw [okDs_iff]
  intro d hd
  obtain ⟨t, ht, rfl⟩ := List.mem_map.mp hd
  have := nm_ok (h t ht)
  simp [tieD, okD, okDs, this]
theorem set_if {t : DL.Env → MS → Res Bool} {F G : SF} (ht : t env m = .ok true m') : ifS t F G env m = F env m' := by
  unfold ifS
  rw [ht]
  rfl
theorem set_else {t : DL.Env → MS → Res Bool} {F G : SF} (ht : t env m = .ok false m') : ifS t F G env m = G env m' := by
  unfold ifS
  rw [ht]
  rfl
end
section
variable {b w k : Nat} {c1 c2 : Col} {m1 m2 : MS} {W : Web}
theorem sk_nok {n : Int} {ps : List Int} {ts : List Tie} {np nt : Int} (h : Sk Nm n 60 200 (ps, ts, np, nt)) (hn : n ≤ 9000000000000) : NOk ps ts := by
  have a1 := h.np
  have a2 := h.nt
  have a3 := h.st.few
  refine ⟨fun p hp => ?_, fun t ht => ?_, a3⟩
  · have := h.st.pl p hp
    simp only at this a1
    omega
  · have h1 := h.st.tl t ht
    have h2 := h.st.te t ht
    have h3 := h.st.pl _ h2.1
    have h4 := h.st.pl _ h2.2
    simp only at h1 h3 h4 a1 a2
    exact ⟨by omega, by omega, h.nm t ht, by omega⟩
theorem text_c (h : WebC k c1 m1 w W) (st : StOk W.stand) (hn : NOk W.ps W.ts) : sem_web_text [.ptr w] m1 = .ok (.str (written W.ps W.ts)) m1 := by
  obtain ⟨a, b, c, hw, _⟩ := h
  exact web_text_ok hw st hn
def nq : Str := "q"
theorem nm_q : Nm ("q" : Str) := Nm.of (by decide +kernel)
/-- all that a law has in hand: the bag, a web of colour k, and the places and ties that it shall have -/
structure Hd (k : Nat) (n : Int) (c : Col) (m : MS) (b w : Nat) (A B : D) (W : Web) : Prop where
  bag : BagC c m b
  web : WebC k c m w W
  la : LsC c m A (W.ps.map .int)
  lb : LsC c m B (W.ts.map tieD)
  sk : Sk Nm n 60 200 W.stand
  mp : W.mp = 60
  mt : W.mt = 200
theorem Hd.f1 {n : Int} {A B : D} (h : Hd k n c1 m1 b w A B W) : W.ps.length ≤ 60 := by have := h.sk.lp; simp [Web.stand] at this; omega
theorem Hd.f2 {n : Int} {A B : D} (h : Hd k n c1 m1 b w A B W) : W.ts.length ≤ 200 := by have := h.sk.lt; simp [Web.stand] at this; omega
theorem Hd.draw {n : Int} {A B : D} (h : Hd k n c1 m1 b w A B W) (hk : k ≠ 0) (g : Bg b m1 m2) : Hd k n c1 m2 b w A B W := ⟨h.bag.go g, h.web.draw h.bag g hk, h.la.draw h.bag g, h.lb.draw h.bag g, h.sk, h.mp, h.mt⟩
theorem Hd.mono {n n' : Int} {A B : D} (h : Hd k n c1 m1 b w A B W) (hn : n ≤ n') : Hd k n' c1 m1 b w A B W := ⟨h.bag, h.web, h.la, h.lb, h.sk.mono hn, h.mp, h.mt⟩
end
end LW

set_option maxHeartbeats 4000000
namespace LW
open PySem PySem.Spec L2 DL
open PyProof.Rows hiding St

section
variable {b w k : Nat} {c1 c2 : Col} {m1 m2 : MS} {W : Web} {n : Int} {A B : D} {env : DL.Env} {i j u : Nat}
/-- the places, as they shall be -/
theorem pl_E (hw : WebC k c1 m1 w W) (st : StOk W.stand) (hA : IsL m1 A (W.ps.map .int)) (h1 : env[u]? = some (some (.ptr w))) (hi : env[i]? = some (some A)) :
    appE (consA (methE "Web" "places" (varE u) nilA (callP 1 sem_Web_places)) (consA (varE i) nilA)) (callP 2 (sem__law_alike 5)) env m1 = .ok (.bl true) (m1 ++ [.lst (W.ps.map .int)]) := by
  have e := places_c hw st
  have ea := alike_pl hA st
  obtain ⟨xa, xb, xc, ho⟩ := hw.obj
  generalize m1 ++ [Cell.lst (W.ps.map .int)] = m2 at e ea ⊢
  have e1 := var_at (m := m1) h1
  have e2 := var_at (m := m2) hi
  generalize varE u = v1 at e1 ⊢
  generalize varE i = v2 at e2 ⊢
  simp -implicitDefEqProofs [e1, e2, ho, e, ea]
theorem ti_E (hw : WebC k c1 m1 w W) (st : StOk W.stand) (hA : IsL m1 A (W.ts.map tieD)) (h1 : env[u]? = some (some (.ptr w))) (hi : env[i]? = some (some A)) :
    appE (consA (methE "Web" "ties" (varE u) nilA (callP 1 sem_Web_ties)) (consA (varE i) nilA)) (callP 2 (sem__law_alike 5)) env m1 = .ok (.bl true) (m1 ++ [.lst (W.ts.map tieD)]) := by
  have e := ties_c hw st
  have ea := alike_ti hA st
  obtain ⟨xa, xb, xc, ho⟩ := hw.obj
  generalize m1 ++ [Cell.lst (W.ts.map tieD)] = m2 at e ea ⊢
  have e1 := var_at (m := m1) h1
  have e2 := var_at (m := m2) hi
  generalize varE u = v1 at e1 ⊢
  generalize varE i = v2 at e2 ⊢
  simp -implicitDefEqProofs [e1, e2, ho, e, ea]
theorem text_E (hw : WebC k c1 m1 w W) (st : StOk W.stand) (hn : NOk W.ps W.ts) (hA : IsL m1 A (W.ps.map .int)) (hB : IsL m1 B (W.ts.map tieD)) (h1 : env[u]? = some (some (.ptr w))) (hi : env[i]? = some (some A)) (hj : env[j]? = some (some B)) :
    appE (consA (varE u) nilA) (callP 1 sem_web_text) env m1 = .ok (.str (written W.ps W.ts)) m1 ∧ appE (consA (varE i) (consA (varE j) nilA)) (callP 2 sem__law_web_written) env m1 = .ok (.str (written W.ps W.ts)) m1 := by
  have e := text_c hw st hn
  have ea := written_ok hA hB hn
  have e1 := var_at (m := m1) h1
  have e2 := var_at (m := m1) hi
  have e3 := var_at (m := m1) hj
  generalize varE u = v1 at e1 ⊢
  generalize varE i = v2 at e2 ⊢
  generalize varE j = v3 at e3 ⊢
  generalize written W.ps W.ts = X at e ea ⊢
  exact ⟨by simp -implicitDefEqProofs [e1, e], by simp -implicitDefEqProofs [e2, e3, ea]⟩
theorem Hd.push (H : Hd k n c1 m1 b w A B W) (l : MS) : Hd k n c1 (m1 ++ l) b w A B W := ⟨H.bag.push l, H.web.push l, H.la.push l, H.lb.push l, H.sk, H.mp, H.mt⟩
theorem Hd.place (H : Hd k n c1 m1 b w A B W) (hk : k ≠ 0 ∧ k ≠ 9) (hf : W.ps.length < 60) :
    ∃ m2 c2, sem_Web_place [.ptr w] m1 = .ok (.int W.np) m2 ∧ Hd k (n + 1) c2 m2 b w (.lst (W.ps.map .int ++ [.int W.np])) B { W with ps := W.ps ++ [W.np], np := W.np + 1 } ∧ Stp [k] c1 m1 m2 c2 ∧ LsC c2 m2 A (W.ps.map .int) := by
  obtain ⟨m2, c2, e, hw, s⟩ := place_c H.web H.sk.st (by rw [H.mp]; omega)
  exact ⟨m2, c2, e, ⟨H.bag.keep s (by simpa using Ne.symm hk.1), hw, .inl (by rw [List.map_append]; rfl), H.lb.keep s (by simpa using Ne.symm hk.2), H.sk.place (by omega) (by decide), H.mp, H.mt⟩, s, H.la.keep s (by simpa using Ne.symm hk.2)⟩
theorem Hd.tie {p q : Int} {x : Str} (H : Hd k n c1 m1 b w A B W) (hk : k ≠ 0 ∧ k ≠ 9) (hp : p ∈ W.ps) (hq : q ∈ W.ps) (hx : Nm x) (hf : W.ts.length < 200) :
    ∃ m2 c2, sem_Web_tie [.ptr w, .int p, .str x, .int q] m1 = .ok (.int W.nt) m2 ∧ Hd k (n + 1) c2 m2 b w A (.lst (W.ts.map tieD ++ [tieD (W.nt, p, x, q)])) { W with ts := W.ts ++ [(W.nt, p, x, q)], nt := W.nt + 1 } ∧ Stp [k] c1 m1 m2 c2 ∧ LsC c2 m2 B (W.ts.map tieD) := by
  obtain ⟨m2, c2, e, hw, s⟩ := tie_c H.web H.sk.st hp hq (isN_nm hx) (by have := hx.le; omega) (by rw [H.mt]; omega)
  exact ⟨m2, c2, e, ⟨H.bag.keep s (by simpa using Ne.symm hk.1), hw, H.la.keep s (by simpa using Ne.symm hk.2), .inl (by rw [List.map_append]; rfl), H.sk.tie hp hq hx (by omega) (by decide), H.mp, H.mt⟩, s, H.lb.keep s (by simpa using Ne.symm hk.2)⟩
theorem Hd.cut {t : Tie} (H : Hd k n c1 m1 b w A B W) (hk : k ≠ 0 ∧ k ≠ 9) (ht : t ∈ W.ts) :
    ∃ m2 c2, sem_Web_cut [.ptr w, .int t.1] m1 = .ok .non m2 ∧ Hd k n c2 m2 b w A (.lst ((W.ts.filter fun s => decide (s.1 ≠ t.1)).map tieD)) { W with ts := W.ts.filter fun s => decide (s.1 ≠ t.1) } ∧ Stp [k] c1 m1 m2 c2 ∧ LsC c2 m2 B (W.ts.map tieD) := by
  obtain ⟨m2, c2, e, hw, s⟩ := cut_c H.web H.sk.st ht
  exact ⟨m2, c2, e, ⟨H.bag.keep s (by simpa using Ne.symm hk.1), hw, H.la.keep s (by simpa using Ne.symm hk.2), .inl rfl, H.sk.cut _, H.mp, H.mt⟩, s, H.lb.keep s (by simpa using Ne.symm hk.2)⟩
/-- more deeds on a web read -/
theorem more_right_ok {P T : Nat} (H : Hd k n c1 m1 b w (.ptr P) (.ptr T) W) (hk : k ≠ 0 ∧ k ≠ 9) (hn : n ≤ 8000000000000) (np : W.np = nxt W.ps) (nt : W.nt = nxt (W.ts.map (·.1))) :
    ∃ m2 c2, sem__law_more_right [.ptr b, .ptr w, .ptr P, .ptr T] m1 = .ok (.bl true) m2 ∧ BagC c2 m2 b ∧ Stp [0, k] c1 m1 m2 c2 := by
  have f1 := H.f1
  have f2 := H.f2
  suffices z : OK (sem__law_more_right [.ptr b, .ptr w, .ptr P, .ptr T] m1) fun d m2 => d = .bl true ∧ ∃ c2, BagC c2 m2 b ∧ Stp [0, k] c1 m1 m2 c2 by
    obtain ⟨_, m2, e, rfl, c2, r⟩ := z
    exact ⟨m2, c2, e, r⟩
  rw [sem__law_more_right_eq]
  refine run_ok ?_
  unfold B__law_more_right
  have s1 := maxd_ok (env := [some (.ptr b), some (.ptr w), some (.ptr P), some (.ptr T), none, none, none, none, none]) (m := m1) (f := varE 2) rfl H.la.is
  rw [← np] at s1
  refine seq_nx (set_nx s1) ?_
  have s2 := comp_l (mk := endL) (f := varE 3) (t := yesT) (T := nameT 8) (vs := [8]) (e := (binE (varE 8) (cE (.int 0)) idxD)) (env := [some (.ptr b), some (.ptr w), some (.ptr P), some (.ptr T), some (.int W.np), none, none, none, none]) (ms := m1) W.ts tieD (fun t => .int t.1) rfl H.lb.is (by omega) (fun t ht => by simp -implicitDefEqProofs [tieD])
  have s3 := maxd_ok (m := m1) (d := .lst ((W.ts.map (·.1)).map .int)) (ns := W.ts.map (·.1)) (by rw [List.map_map]; exact s2) (.inl rfl)
  rw [← nt] at s3
  refine seq_nx (set_nx s3) ?_
  show OK (seqS _ _ [some (.ptr b), some (.ptr w), some (.ptr P), some (.ptr T), some (.int W.np), some (.int W.nt), none, none, none] m1) _
  -- a place more
  refine seq_ok (P := fun env m' => ∃ A W' c', env = [some (.ptr b), some (.ptr w), some A, some (.ptr T), some (.int W.np), some (.int W.nt), none, none, none] ∧ Hd k (n + 1) c' m' b w A (.ptr T) W' ∧ W'.nt = W.nt ∧ Stp [0, k] c1 m1 m' c') ?_ ?_
  · have l1 := len_l (env := [some (.ptr b), some (.ptr w), some (.ptr P), some (.ptr T), some (.int W.np), some (.int W.nt), none, none, none]) (i := 2) rfl H.la.is (by simp; omega)
    rw [List.length_map] at l1
    by_cases h : W.ps.length < 60
    · have h' : (W.ps.length : Int) < 60 := by omega
      obtain ⟨m2, c2, e, H2, st2, la2⟩ := H.place hk h
      obtain ⟨xa, xb, xc, ho⟩ := H.web.obj
      rw [set_if (m' := m1) (by
        generalize appE (consA (varE 2) nilA) lenP = v at l1 ⊢
        simp -implicitDefEqProofs [l1, h'])]
      refine seq_nx (env' := [some (.ptr b), some (.ptr w), some (.ptr P), some (.ptr T), some (.int W.np), some (.int W.nt), none, none, none]) (ms1 := m2) (by simp -implicitDefEqProofs [ho, e, alike_num]) ?_
      exact OK_of (set_nx (add_l (X := W.ps.map .int) (Y := [.int W.np]) rfl (by simp -implicitDefEqProofs) la2.is (by simp; omega))) ⟨rfl, _, _, c2, rfl, H2, rfl, st2.sub (by simp)⟩
    · have h' : ¬ (W.ps.length : Int) < 60 := by omega
      rw [set_else (m' := m1) (by
        generalize appE (consA (varE 2) nilA) lenP = v at l1 ⊢
        simp -implicitDefEqProofs [l1, h'])]
      exact OK_of (m := m1) rfl ⟨rfl, _, _, c1, rfl, H.mono (by omega), rfl, (Stp.refl (ks := [])).sub (by simp)⟩
  rintro env m2 ⟨A, W2, c2, rfl, H2, nt2, st2⟩
  have g1 := H2.f1
  have g2 := H2.f2
  -- a tie more
  refine seq_ok (P := fun env m' => ∃ B W' c' e6, env = [some (.ptr b), some (.ptr w), some A, some B, some (.int W.np), some (.int W.nt), e6, none, none] ∧ Hd k (n + 2) c' m' b w A B W' ∧ Stp [0, k] c1 m1 m' c') ?_ ?_
  · have l1 := len_l (env := [some (.ptr b), some (.ptr w), some A, some (.ptr T), some (.int W.np), some (.int W.nt), none, none, none]) (i := 3) rfl H2.lb.is (by simp; omega)
    rw [List.length_map] at l1
    have l2 := ne_l (env := [some (.ptr b), some (.ptr w), some A, some (.ptr T), some (.int W.np), some (.int W.nt), none, none, none]) (i := 2) rfl H2.la.is (ok_ints 2 _)
    have l3 : valT (binE (appE (consA (varE 3) nilA) lenP) (cE (.int 200)) ltD) [some (.ptr b), some (.ptr w), some A, some (.ptr T), some (.int W.np), some (.int W.nt), none, none, none] m2 = .ok (decide ((W2.ts.length : Int) < 200)) m2 := by
      generalize appE (consA (varE 3) nilA) lenP = v at l1 ⊢
      simp -implicitDefEqProofs [l1]
    have l4 := andT_eq l2 l3
    by_cases h : 0 < W2.ps.length ∧ W2.ts.length < 200
    · have h1 : (!(W2.ps.map D.int).isEmpty && decide ((W2.ts.length : Int) < 200)) = true := by
        have a1 : (W2.ts.length : Int) < 200 := by omega
        have a2 : W2.ps ≠ [] := fun z => by rw [z] at h; simp at h
        simp [a1, a2]
      rw [h1] at l4
      rw [set_if l4]
      obtain ⟨p, m3, hp, e3, B3⟩ := pick_l (env := [some (.ptr b), some (.ptr w), some A, some (.ptr T), some (.int W.np), some (.int W.nt), none, none, none]) (i := 2) (l := W2.ps) (it := D.int) rfl rfl H2.bag H2.la ⟨h.1, by omega⟩
      have H3 := H2.draw hk.1 B3
      obtain ⟨q, hq, hql⟩ : ∃ q, q ∈ W2.ps ∧ atI (W2.ps.map D.int) (-1) = some (.int q) := by
        rcases List.eq_nil_or_concat W2.ps with z | ⟨l, q, z⟩
        · rw [z] at h; simp at h
        · exact ⟨q, by rw [z]; simp, by rw [z, List.concat_eq_append, List.map_append]; exact atI_last _ _⟩
      have e4 := idx_l (env := [some (.ptr b), some (.ptr w), some A, some (.ptr T), some (.int W.np), some (.int W.nt), none, none, none]) (g := unE (cE (.int 1)) negD) (m := m3) (m' := m3) (i := 2) rfl (by simp -implicitDefEqProofs) H3.la.is hql
      refine seq_nx (env' := [some (.ptr b), some (.ptr w), some A, some (.ptr T), some (.int W.np), some (.int W.nt), some (.lst [.int p, .int q]), none, none]) (ms1 := m3) (by
        generalize binE (varE 2) (appE (consA (varE 0) (consA (appE (consA (varE 2) nilA) lenP) nilA)) (callP 2 sem__law_draw)) idxD = v1 at e3 ⊢
        generalize binE (varE 2) (unE (cE (.int 1)) negD) idxD = v2 at e4 ⊢
        simp -implicitDefEqProofs [e3, e4]) ?_
      obtain ⟨m4, c4, e5, H4, st4, lb4⟩ := H3.tie (x := "q") hk hp hq nm_q h.2
      obtain ⟨xa, xb, xc, ho⟩ := H3.web.obj
      rw [nt2] at e5
      refine seq_nx (env' := [some (.ptr b), some (.ptr w), some A, some (.ptr T), some (.int W.np), some (.int W.nt), some (.lst [.int p, .int q]), none, none]) (ms1 := m4) (by simp -implicitDefEqProofs [ho, e5, alike_num]) ?_
      exact OK_of (set_nx (add_l (X := W2.ts.map tieD) (Y := [tieD (W.nt, p, "q", q)]) rfl (by simp -implicitDefEqProofs [tieD]) lb4.is (by simp; omega))) ⟨rfl, _, _, c4, _, rfl, by rw [nt2] at H4; exact H4.mono (by omega), ((st2.trans (H2.bag.stp B3)).trans st4).sub (by simp)⟩
    · have h1 : (!(W2.ps.map D.int).isEmpty && decide ((W2.ts.length : Int) < 200)) = false := by
        by_cases z : W2.ps = []
        · simp [z]
        · have : 0 < W2.ps.length := List.length_pos_iff.mpr z
          have : ¬ ((W2.ts.length : Int) < 200) := by omega
          simp [this]
      rw [h1] at l4
      rw [set_else l4]
      exact OK_of (m := m2) rfl ⟨rfl, _, _, c2, _, rfl, H2.mono (by omega), st2⟩
  clear st2 nt2 g1 g2 H2
  rintro env m3 ⟨B, W3, c3, e6, rfl, H3, st3⟩
  have g1 := H3.f1
  have g2 := H3.f2
  -- a tie less
  refine seq_ok (P := fun env m' => ∃ B W' c' e7, env = [some (.ptr b), some (.ptr w), some A, some B, some (.int W.np), some (.int W.nt), e6, e7, none] ∧ Hd k (n + 2) c' m' b w A B W' ∧ Stp [0, k] c1 m1 m' c') ?_ ?_
  · have l2 := ne_l (env := [some (.ptr b), some (.ptr w), some A, some B, some (.int W.np), some (.int W.nt), e6, none, none]) (i := 3) rfl H3.lb.is (ok_ties H3.sk.nm)
    by_cases h : 0 < W3.ts.length
    · have h1 : (!(W3.ts.map tieD).isEmpty) = true := by
        have a2 : W3.ts ≠ [] := fun z => by rw [z] at h; simp at h
        simp [a2]
      rw [h1] at l2
      rw [set_if l2]
      obtain ⟨t, m4, ht, e4, B4⟩ := pick_l (env := [some (.ptr b), some (.ptr w), some A, some B, some (.int W.np), some (.int W.nt), e6, none, none]) (i := 3) (l := W3.ts) (it := tieD) rfl rfl H3.bag H3.lb ⟨h, by omega⟩
      have H4 := H3.draw hk.1 B4
      obtain ⟨m5, c5, e5, H5, st5, lb5⟩ := H4.cut hk ht
      obtain ⟨xa, xb, xc, ho⟩ := H4.web.obj
      refine seq_nx (set_nx e4) ?_
      show OK (seqS _ _ [some (.ptr b), some (.ptr w), some A, some B, some (.int W.np), some (.int W.nt), e6, some (tieD t), none] m4) _
      refine seq_nx (env' := [some (.ptr b), some (.ptr w), some A, some B, some (.int W.np), some (.int W.nt), e6, some (tieD t), none]) (ms1 := m5) (by
        have hy : binE (varE 7) (cE (.int 0)) idxD [some (.ptr b), some (.ptr w), some A, some B, some (.int W.np), some (.int W.nt), e6, some (tieD t), none] m4 = .ok (.int t.1) m4 := by simp -implicitDefEqProofs [tieD]
        generalize binE (varE 7) (cE (.int 0)) idxD = I at hy ⊢
        simp -implicitDefEqProofs [ho, hy, e5]) ?_
      have s5 := comp_lf (mk := endL) (f := varE 3) (t := (valT (binE (varE 8) (varE 7) neD))) (T := nameT 8) (vs := [8]) (e := varE 8) (env := [some (.ptr b), some (.ptr w), some A, some B, some (.int W.np), some (.int W.nt), e6, some (tieD t), none]) (ms := m5) W3.ts (fun s => decide (s.1 ≠ t.1)) tieD tieD rfl lb5.is (by omega) (fun s hs => by
        have z : neG (tieD s) (tieD t) m5 = .ok (.bl (decide (s.1 ≠ t.1))) m5 := tie_ne H3.sk.st.tr H3.sk.nm hs ht m5
        have z' : valT (binE (varE 8) (varE 7) neD) [some (.ptr b), some (.ptr w), some A, some B, some (.int W.np), some (.int W.nt), e6, some (tieD t), some (tieD s)] m5 = .ok (decide (s.1 ≠ t.1)) m5 := by
          generalize decide (s.1 ≠ t.1) = bb at z
          simp only [tieD] at z
          simp -implicitDefEqProofs [tieD, z]
        cases q : decide (s.1 ≠ t.1) with
        | true =>
          rw [q] at z'
          generalize valT (binE (varE 8) (varE 7) neD) = V at z' ⊢
          simp -implicitDefEqProofs [z']
        | false =>
          rw [q] at z'
          generalize valT (binE (varE 8) (varE 7) neD) = V at z' ⊢
          simp -implicitDefEqProofs [z'])
      exact OK_of (set_nx s5) ⟨rfl, _, _, c5, _, rfl, H5, ((st3.trans (H3.bag.stp B4)).trans st5).sub (by simp)⟩
    · have h1 : (!(W3.ts.map tieD).isEmpty) = false := by
        have : W3.ts = [] := List.length_eq_zero_iff.mp (by omega)
        simp [this]
      rw [h1] at l2
      rw [set_else l2]
      exact OK_of (m := m3) rfl ⟨rfl, _, _, c3, _, rfl, H3, st3⟩
  clear st3 g1 g2 H3
  rintro env m4 ⟨B, W4, c4, e7, rfl, H4, st4⟩
  -- alike
  have p1 := pl_E (env := [some (.ptr b), some (.ptr w), some A, some B, some (.int W.np), some (.int W.nt), e6, e7, none]) (u := 1) (i := 2) H4.web H4.sk.st H4.la.is rfl rfl
  have H5 := H4.push [.lst (W4.ps.map .int)]
  have p2 := ti_E (env := [some (.ptr b), some (.ptr w), some A, some B, some (.int W.np), some (.int W.nt), e6, e7, none]) (u := 1) (i := 3) H5.web H5.sk.st H5.lb.is rfl rfl
  have H6 := H5.push [.lst (W4.ts.map tieD)]
  obtain ⟨m5, hm5⟩ : ∃ m5, m5 = m4 ++ [Cell.lst (W4.ps.map .int)] ++ [.lst (W4.ts.map tieD)] := ⟨_, rfl⟩
  rw [← hm5] at H6 p2
  have st6 : Stp [0, k] c1 m1 m5 c4 := by rw [hm5, List.append_assoc]; exact (st4.trans (Stp.push (ks := []) _)).sub (by simp)
  refine seq_nx (env' := [some (.ptr b), some (.ptr w), some A, some B, some (.int W.np), some (.int W.nt), e6, e7, none]) (ms1 := m5) (by
    generalize appE (consA (methE "Web" "places" (varE 1) nilA (callP 1 sem_Web_places)) (consA (varE 2) nilA)) (callP 2 (sem__law_alike 5)) = v1 at p1 ⊢
    generalize appE (consA (methE "Web" "ties" (varE 1) nilA (callP 1 sem_Web_ties)) (consA (varE 3) nilA)) (callP 2 (sem__law_alike 5)) = v2 at p2 ⊢
    simp -implicitDefEqProofs [p1, p2]) ?_
  obtain ⟨t1, t2⟩ := text_E (env := [some (.ptr b), some (.ptr w), some A, some B, some (.int W.np), some (.int W.nt), e6, e7, none]) (u := 1) (i := 2) (j := 3) H6.web H6.sk.st (sk_nok H6.sk (by omega)) H6.la.is H6.lb.is rfl rfl rfl
  refine OK_of (a := (Fl.ret (.bl true), [some (.ptr b), some (.ptr w), some A, some B, some (.int W.np), some (.int W.nt), e6, e7, none])) (m := m5) (by
    generalize appE (consA (varE 1) nilA) (callP 1 sem_web_text) = v1 at t1 ⊢
    generalize appE (consA (varE 2) (consA (varE 3) nilA)) (callP 2 sem__law_web_written) = v2 at t2 ⊢
    simp -implicitDefEqProofs [t1, t2]) ⟨rfl, c4, H6.bag, st6⟩
end
end LW

set_option maxHeartbeats 4000000
namespace LW
open PySem PySem.Spec L2 DL
open PyProof.Rows hiding St

section
variable {b w k : Nat} {c1 c2 : Col} {m1 m2 : MS} {W : Web} {n : Int} {A B : D} {env : DL.Env} {i j u : Nat}
theorem len_c (h : WebC k c1 m1 w W) (st : StOk W.stand) : sem_Web___len__ [.ptr w] m1 = .ok (.int W.ts.length) m1 := by
  obtain ⟨a, b, c, h, _⟩ := h
  have f : W.ts.length ≤ 1000 := st.few.2
  have f16 : W.ts.length ≤ 16777216 := by omega
  have hl : (tiK W.ts).length = W.ts.length := by simp [tiK]
  simp -implicitDefEqProofs [sem_Web___len___eq, B_Web___len__, h.o, h.t, hl, f16]
theorem n_tp : ¬ (("tie" : Str) = "place") := str_ne (by decide +kernel)
theorem n_dp : ¬ (("drop" : Str) = "place") := str_ne (by decide +kernel)
theorem n_dt : ¬ (("drop" : Str) = "tie") := str_ne (by decide +kernel)
theorem n_nf : ¬ (("NoPlace" : Str) = "Full") := str_ne (by decide +kernel)
theorem n_tf : ¬ (("Tied" : Str) = "Full") := str_ne (by decide +kernel)
theorem n_tn : ¬ (("Tied" : Str) = "NoPlace") := str_ne (by decide +kernel)
theorem n_nt : ¬ (("none" : Str) = "Tied") := str_ne (by decide +kernel)
theorem m_full : ("Full" : Str) ∈ L_exn := by unfold L_exn; simp
theorem m_nop : ("NoPlace" : Str) ∈ L_exn := by unfold L_exn; simp
theorem m_tied : ("Tied" : Str) ∈ L_exn := by unfold L_exn; simp
theorem ref_place {d : D} (h : WebC k c1 m1 w W) (st : StOk W.stand) (hf : W.mp ≤ (W.ps.length : Int)) (hs : Sm W.mp) : ∃ l, sem__law_refusal [.ptr w, .str "place", d] m1 = .ok (.str "Full") (m1 ++ l) := by
  obtain ⟨a, b, c, h, _⟩ := h
  obtain ⟨env, e⟩ := place_no h st hf hs
  have ho := h.o
  refine ⟨[.exn "Full" (some ("most", W.mp))], ?_⟩
  simp -implicitDefEqProofs [sem__law_refusal_eq, B__law_refusal, ho, e, hnd, m_full]
theorem ref_tie {p : Int} (h : WebC k c1 m1 w W) (st : StOk W.stand) (hp : p ∈ W.ps) (hf : W.mt ≤ (W.ts.length : Int)) (hs : Sm W.mt) : ∃ l, sem__law_refusal [.ptr w, .str "tie", .int p] m1 = .ok (.str "Full") (m1 ++ l) := by
  obtain ⟨a, b, c, h, _⟩ := h
  obtain ⟨env, e⟩ := tie_no4 (x := "q") h st hp hp (isN_nm nm_q) (by have := nm_q.le; omega) hf hs
  have ho := h.o
  refine ⟨[.exn "Full" (some ("most", W.mt))], ?_⟩
  simp -implicitDefEqProofs [sem__law_refusal_eq, B__law_refusal, ho, e, hnd, m_full, n_tp]
theorem ref_drop1 {p : Int} (h : WebC k c1 m1 w W) (hp : p ∉ W.ps) (hs : Sm p) : ∃ l, sem__law_refusal [.ptr w, .str "drop", .int p] m1 = .ok (.str "NoPlace") (m1 ++ l) := by
  obtain ⟨a, b, c, h, _⟩ := h
  obtain ⟨env, e⟩ := drop_no1 h hp hs
  have ho := h.o
  refine ⟨[.exn "NoPlace" none], ?_⟩
  simp -implicitDefEqProofs [sem__law_refusal_eq, B__law_refusal, ho, e, hnd, m_nop, n_dp, n_dt, n_nf]
theorem ref_drop2 {p : Int} (h : WebC k c1 m1 w W) (st : StOk W.stand) (hp : p ∈ W.ps) (hf : W.ts.filter (atP p) ≠ []) (hs : Sm p) : ∃ l, sem__law_refusal [.ptr w, .str "drop", .int p] m1 = .ok (.str "Tied") (m1 ++ l) := by
  obtain ⟨a, b, c, h, _⟩ := h
  obtain ⟨env, e⟩ := drop_no2 h st hp hf hs
  have ho := h.o
  refine ⟨[.lst (W.ts.map tieD), .lst ((W.ts.filter (atP p)).map fun t => .int t.1), .exn "Tied" none], ?_⟩
  have em : m1 ++ [Cell.lst (W.ts.map tieD), .lst ((W.ts.filter (atP p)).map fun t => .int t.1), .exn "Tied" none] = m1 ++ [.lst (W.ts.map tieD), .lst ((W.ts.filter (atP p)).map fun t => .int t.1)] ++ [.exn "Tied" none] := by simp
  rw [em]
  generalize m1 ++ [Cell.lst (W.ts.map tieD), .lst ((W.ts.filter (atP p)).map fun t => .int t.1)] = m2 at e ⊢
  simp -implicitDefEqProofs [sem__law_refusal_eq, B__law_refusal, ho, e, hnd, m_tied, n_dp, n_dt, n_tf, n_tn]
theorem ref_drop3 {p : Int} (h : WebC k c1 m1 w W) (st : StOk W.stand) (hp : p ∈ W.ps) (hf : W.ts.filter (atP p) = []) : ∃ m2 c2, sem__law_refusal [.ptr w, .str "drop", .int p] m1 = .ok (.str "none") m2 ∧ WebC k c2 m2 w { W with ps := W.ps.filter fun q => decide (q ≠ p) } ∧ Stp [k] c1 m1 m2 c2 := by
  obtain ⟨m2, c2, e, hw, s⟩ := drop_c h st hp hf
  obtain ⟨xa, xb, xc, ho⟩ := h.obj
  refine ⟨m2, c2, ?_, hw, s⟩
  simp -implicitDefEqProofs [sem__law_refusal_eq, B__law_refusal, ho, e, n_dp, n_dt]
theorem comp_rng {mk : List D → MS → Res D} {f e : DL.Env → MS → Res D} {t : DL.Env → MS → Res Bool} {T : TF} {vs : List Nat} (N : Nat) (out : Nat → D) (hf : f env m1 = .ok (.int N) m1) (hN : N ≤ 100000)
    (hs : ∀ (i : Nat), i < N → stepOf T t e (wipeE env vs) (.int i) m1 = .ok (some (out i)) m1) : compE mk (rngSrc1 f) T t e vs env m1 = mk ((List.range N).map out) m1 := by
  have c1 : (-4611686018427387904 : Int) ≤ N := by omega
  have c2 : (N : Int) < 4611686018427387904 := by omega
  have c := comp_zip (nx := fun i _ => rngNx 0 N i) (step := stepOf T t e (wipeE env vs)) (List.range N) (fun k => D.int (0 + (k : Int))) out (ms := m1) (fun i => rngNx_eq 0 N i) (by simp; omega) (fun k hk => by rw [Int.zero_add]; exact hs k (List.mem_range.mp hk)) (n := N + 1) (by simp)
  have hg : rngSrc1 f env m1 = .ok ⟨[], fun i _ => rngNx 0 N i, N + 1⟩ m1 := by simp -implicitDefEqProofs [hf, c1, c2]
  unfold compE
  rw [hg]
  simp only [bind_ok, c, noExc]
end
end LW

set_option maxHeartbeats 4000000
namespace LW
open PySem PySem.Spec L2 DL
open PyProof.Rows hiding St

/-- so many places more -/
def Wf (W : Web) (i : Nat) : Web := { W with ps := W.ps ++ (List.range i).map fun (k : Nat) => W.np + (k : Int), np := W.np + i }
theorem wf_0 (W : Web) : Wf W 0 = W := by
  unfold Wf
  simp
theorem wf_s (W : Web) (i : Nat) : Wf W (i + 1) = { Wf W i with ps := (Wf W i).ps ++ [(Wf W i).np], np := (Wf W i).np + 1 } := by
  unfold Wf
  simp only [List.range_succ, List.map_append, List.append_assoc, List.map_cons, List.map_nil]
  have : W.np + ((i + 1 : Nat) : Int) = W.np + (i : Int) + 1 := by omega
  rw [this]
section
variable {b w k : Nat} {c1 c2 : Col} {m1 m2 : MS} {W : Web} {n : Int} {A B : D}
theorem filled_ok (H : Hd k n c1 m1 b w (.lst (W.ps.map .int)) B W) (hk : k ≠ 0 ∧ k ≠ 9) (n0 : 0 ≤ n) (hn : n ≤ 8000000000000) :
    ∃ m2 c2 W', sem__law_filled [.ptr b, .ptr w, .lst (W.ps.map .int), B, .int W.np] m1 = .ok (.bl true) m2 ∧ BagC c2 m2 b ∧ WebC k c2 m2 w W' ∧ Sk Nm (n + 300) 60 200 W'.stand ∧ W'.mks = W.mks ∧ (∀ t ∈ W.ts, t ∈ W'.ts) ∧ Stp [0, k] c1 m1 m2 c2 := by
  have f1 := H.f1
  have f2 := H.f2
  have np0 : 0 ≤ W.np := H.sk.st.n0
  have npn : W.np ≤ n := H.sk.np
  suffices z : OK (sem__law_filled [.ptr b, .ptr w, .lst (W.ps.map .int), B, .int W.np] m1) fun d m2 => d = .bl true ∧ ∃ c2 W', BagC c2 m2 b ∧ WebC k c2 m2 w W' ∧ Sk Nm (n + 300) 60 200 W'.stand ∧ W'.mks = W.mks ∧ (∀ t ∈ W.ts, t ∈ W'.ts) ∧ Stp [0, k] c1 m1 m2 c2 by
    obtain ⟨_, m2, e, rfl, c2, W', r⟩ := z
    exact ⟨m2, c2, W', e, r⟩
  rw [sem__law_filled_eq]
  refine run_ok ?_
  unfold B__law_filled
  have hrng : ∀ {e5 e6 : Option D} {m : MS}, binE (cE (.int 60)) (appE (consA (varE 2) nilA) lenP) subD [some (.ptr b), some (.ptr w), some (.lst (W.ps.map .int)), some B, some (.int W.np), e5, e6] m = .ok (.int ((60 - W.ps.length : Nat) : Int)) m := fun {e5 e6 m} => by
    have l1 := len_l (env := [some (.ptr b), some (.ptr w), some (.lst (W.ps.map .int)), some B, some (.int W.np), e5, e6]) (m := m) (i := 2) (X := W.ps.map .int) rfl (.inl rfl) (by simp; omega)
    rw [List.length_map] at l1
    have e : (60 : Int) - (W.ps.length : Int) = ((60 - W.ps.length : Nat) : Int) := by omega
    generalize appE (consA (varE 2) nilA) lenP = v at l1 ⊢
    simp -implicitDefEqProofs [l1, e]
  obtain ⟨N, hN⟩ : ∃ N, N = 60 - W.ps.length := ⟨_, rfl⟩
  rw [← hN] at hrng
  -- places
  refine seq_ok (P := fun env m => (∃ e5, env = [some (.ptr b), some (.ptr w), some (.lst (W.ps.map .int)), some B, some (.int W.np), e5, none]) ∧ ∃ c, Hd k (n + N) c m b w (.lst ((Wf W N).ps.map .int)) B (Wf W N) ∧ Stp [0, k] c1 m1 m c) ?_ ?_
  · refine for_rng N (fun i env m => (∃ e5, env = [some (.ptr b), some (.ptr w), some (.lst (W.ps.map .int)), some B, some (.int W.np), e5, none]) ∧ ∃ c, Hd k (n + i) c m b w (.lst ((Wf W i).ps.map .int)) B (Wf W i) ∧ Stp [0, k] c1 m1 m c) (ms1 := m1) hrng (by omega) ⟨⟨none, rfl⟩, c1, by rw [wf_0]; simpa using H, (Stp.refl (ks := [])).sub (by simp)⟩ ?_
    rintro i env m hi ⟨⟨e5, rfl⟩, c, Hi, st⟩
    have hlen : (Wf W i).ps.length = W.ps.length + i := by simp [Wf]
    obtain ⟨m2, c2, e, H2, st2, _⟩ := Hi.place hk (by omega)
    obtain ⟨xa, xb, xc, ho⟩ := Hi.web.obj
    have e' : sem_Web_place [.ptr w] m = .ok (.int (W.np + (i : Int))) m2 := e
    refine turn_name ?_
    refine OK_of (a := (Fl.nx, [some (.ptr b), some (.ptr w), some (.lst (W.ps.map .int)), some B, some (.int W.np), some (.int i), none])) (m := m2) (by
      generalize W.ps.map D.int = X
      simp -implicitDefEqProofs [ho, e', alike_num]) ⟨rfl, ⟨_, rfl⟩, c2, ?_, (st.trans st2).sub (by simp)⟩
    have e3 : n + ((i + 1 : Nat) : Int) = n + (i : Int) + 1 := by omega
    rw [wf_s, e3]
    have e4 : ((Wf W i).ps.map D.int ++ [.int (Wf W i).np]) = ((Wf W i).ps ++ [(Wf W i).np]).map D.int := by rw [List.map_append]; rfl
    rw [e4] at H2
    exact H2
  rintro env m2 ⟨⟨e5, rfl⟩, c2, H2, st2⟩
  have hPl : (Wf W N).ps.length = 60 := by simp [Wf]; omega
  have hPm : W.ps.map D.int ++ (List.range N).map (fun (k : Nat) => D.int (W.np + (k : Int))) = (Wf W N).ps.map D.int := by
    unfold Wf
    rw [List.map_append, List.map_map]
    rfl
  have s2 := comp_rng (mk := endL) (f := binE (cE (.int 60)) (appE (consA (varE 2) nilA) lenP) subD) (t := yesT) (T := nameT 5) (vs := [5]) (e := binE (varE 4) (varE 5) addD) (env := [some (.ptr b), some (.ptr w), some (.lst (W.ps.map .int)), some B, some (.int W.np), e5, none]) (m1 := m2) N (fun k => D.int (W.np + (k : Int))) hrng (by omega) (fun i hi => by
    generalize W.ps.map D.int = X
    simp -implicitDefEqProofs)
  have s3 := add_l (i := 2) (m := m2) (A := .lst (W.ps.map .int)) (X := W.ps.map .int) rfl s2 (.inl rfl) (by simp; omega)
  rw [hPm] at s3
  refine seq_nx (set_nx s3) ?_
  show OK (seqS _ _ [some (.ptr b), some (.ptr w), some (.lst (W.ps.map .int)), some B, some (.int W.np), e5, some (.lst ((Wf W N).ps.map .int))] m2) _
  -- full
  have smp : Sm (Wf W N).mp := by rw [H2.mp]; unfold Sm; decide
  have smt : Sm W.mt := by rw [H.mt]; unfold Sm; decide
  obtain ⟨l1, r1⟩ := ref_place (d := .int 0) H2.web H2.sk.st (by rw [H2.mp, hPl]; decide) smp
  have H3 := H2.push l1
  obtain ⟨l2, r2⟩ := ref_drop1 (p := W.np + 60) H3.web (fun z => by
    have := (H2.sk.st.pl _ z).2
    have e : (Wf W N).stand.2.2.1 = W.np + N := rfl
    rw [e] at this
    omega) (by unfold Sm; omega)
  have H4 := H3.push l2
  obtain ⟨m3, hm3⟩ : ∃ m3, m3 = m2 ++ l1 ++ l2 := ⟨_, rfl⟩
  rw [← hm3] at r2 H4
  have st3 : Stp [0, k] c1 m1 m3 c2 := by rw [hm3, List.append_assoc]; exact (st2.trans (Stp.push (ks := []) _)).sub (by simp)
  refine seq_nx (env' := [some (.ptr b), some (.ptr w), some (.lst (W.ps.map .int)), some B, some (.int W.np), e5, some (.lst ((Wf W N).ps.map .int))]) (ms1 := m3) (by
    generalize W.ps.map D.int = X
    generalize (Wf W N).ps.map D.int = Y
    simp -implicitDefEqProofs [r1, r2]) ?_
  -- ties
  obtain ⟨N2, hN2⟩ : ∃ N2, N2 = 200 - W.ts.length := ⟨_, rfl⟩
  generalize hPe : (Wf W N).ps = Pl at hPl
  refine seq_ok (P := fun env m => (∃ e5, env = [some (.ptr b), some (.ptr w), some (.lst (W.ps.map .int)), some B, some (.int W.np), e5, some (.lst (Pl.map .int))]) ∧ ∃ c W', Hd k (n + N + N2) c m b w (.lst (Pl.map .int)) (.lst (W'.ts.map tieD)) W' ∧ W'.ps = Pl ∧ W'.ts.length = W.ts.length + N2 ∧ (∀ t ∈ W.ts, t ∈ W'.ts) ∧ W'.mks = W.mks ∧ Stp [0, k] c1 m1 m c) ?_ ?_
  · refine for_rng N2 (fun i env m => (∃ e5, env = [some (.ptr b), some (.ptr w), some (.lst (W.ps.map .int)), some B, some (.int W.np), e5, some (.lst (Pl.map .int))]) ∧ ∃ c W', Hd k (n + N + i) c m b w (.lst (Pl.map .int)) (.lst (W'.ts.map tieD)) W' ∧ W'.ps = Pl ∧ W'.ts.length = W.ts.length + i ∧ (∀ t ∈ W.ts, t ∈ W'.ts) ∧ W'.mks = W.mks ∧ Stp [0, k] c1 m1 m c) (ms1 := m3) ?_ (by omega) ⟨⟨e5, rfl⟩, c2, Wf W N, ⟨H4.bag, H4.web, .inl (by rw [hPe]), .inl rfl, by simpa using H4.sk, H4.mp, H4.mt⟩, hPe, rfl, fun t ht => ht, rfl, st3⟩ ?_
    · have l1 := len_l (env := [some (.ptr b), some (.ptr w), some (.lst (W.ps.map .int)), some B, some (.int W.np), e5, some (.lst (Pl.map .int))]) (m := m3) (i := 3) rfl H4.lb.is (by simp [Wf]; omega)
      rw [List.length_map] at l1
      have e : (200 : Int) - (W.ts.length : Int) = (N2 : Int) := by omega
      have l1' : appE (consA (varE 3) nilA) lenP [some (.ptr b), some (.ptr w), some (.lst (W.ps.map .int)), some B, some (.int W.np), e5, some (.lst (Pl.map .int))] m3 = .ok (.int W.ts.length) m3 := l1
      generalize appE (consA (varE 3) nilA) lenP = v at l1' ⊢
      simp -implicitDefEqProofs [l1', e]
    rintro i env m hi ⟨⟨e5, rfl⟩, c, W', Hi, hps, hlen, hsub, hmk, st⟩
    obtain ⟨p, hp, hpm⟩ := atL (l := Pl) (i := (i : Int) % 60) (Int.emod_nonneg _ (by decide)) (by rw [hPl]; exact Int.emod_lt_of_pos _ (by decide)) D.int
    obtain ⟨_, m4, d4, r, rfl, r0, r1', B4⟩ := draw_ok Hi.bag.1 (many := 60) (by decide) (by decide)
    obtain ⟨q, hq, hqm⟩ := atL (l := Pl) (i := r) r0 (by rw [hPl]; exact r1') D.int
    have Hi4 := Hi.draw hk.1 B4
    obtain ⟨xa, xb, xc, ho⟩ := Hi.web.obj
    have v1 := idx_l (env := [some (.ptr b), some (.ptr w), some (.lst (W.ps.map .int)), some B, some (.int W.np), some (.int i), some (.lst (Pl.map .int))]) (i := 6) (g := binE (varE 5) (cE (.int 60)) modD) (j := (i : Int) % 60) (y := .int p) (m := m) (m' := m) rfl (by
      generalize W.ps.map D.int = X
      generalize Pl.map D.int = Y
      simp -implicitDefEqProofs) Hi.la.is (by rw [hps]; exact hp)
    have v2 := idx_l (env := [some (.ptr b), some (.ptr w), some (.lst (W.ps.map .int)), some B, some (.int W.np), some (.int i), some (.lst (Pl.map .int))]) (i := 6) (g := (appE (consA (varE 0) (consA (cE (.int 60)) nilA)) (callP 2 sem__law_draw))) (j := r) (y := .int q) (m := m) (m' := m4) rfl (by
      generalize W.ps.map D.int = X
      generalize Pl.map D.int = Y
      simp -implicitDefEqProofs [d4]) Hi4.la.is (by rw [hps]; exact hq)
    obtain ⟨m5, c5, e5', H5, st5, _⟩ := Hi4.tie (x := "q") (p := p) (q := q) hk (by rw [hps]; exact hpm) (by rw [hps]; exact hqm) nm_q (by omega)
    refine turn_name ?_
    refine OK_of (a := (Fl.nx, [some (.ptr b), some (.ptr w), some (.lst (W.ps.map .int)), some B, some (.int W.np), some (.int i), some (.lst (Pl.map .int))])) (m := m5) (by
      show dropS _ [some (.ptr b), some (.ptr w), some (.lst (W.ps.map .int)), some B, some (.int W.np), some (.int i), some (.lst (Pl.map .int))] m = _
      generalize binE (varE 6) (binE (varE 5) (cE (.int 60)) modD) idxD = V1 at v1 ⊢
      generalize binE (varE 6) (appE (consA (varE 0) (consA (cE (.int 60)) nilA)) (callP 2 sem__law_draw)) idxD = V2 at v2 ⊢
      generalize W.ps.map D.int = X at v1 v2 ⊢
      generalize Pl.map D.int = Y at v1 v2 ⊢
      simp -implicitDefEqProofs [ho, v1, v2, e5']) ⟨rfl, ⟨_, rfl⟩, c5, { W' with ts := W'.ts ++ [(W'.nt, p, ("q" : Str), q)], nt := W'.nt + 1 }, ?_, hps, ?_, ?_, hmk, ((st.trans (Hi.bag.stp B4)).trans st5).sub (by simp)⟩
    · have e3 : n + N + ((i + 1 : Nat) : Int) = n + N + (i : Int) + 1 := by omega
      rw [e3]
      exact ⟨H5.bag, H5.web, H5.la, .inl rfl, H5.sk, H5.mp, H5.mt⟩
    · simp [hlen]; omega
    · intro t ht
      exact List.mem_append_left _ (hsub t ht)
  rintro env m4 ⟨⟨e5', rfl⟩, c4, W', H5, hps, hlen, hsub, hmk, st4⟩
  have hpl' : W'.ps.length = 60 := by rw [hps]; exact hPl
  obtain ⟨p, hp, hpm⟩ := atL (l := W'.ps) (i := 0) (by decide) (by omega) D.int
  have v1 := idx_l (env := [some (.ptr b), some (.ptr w), some (.lst (W.ps.map .int)), some B, some (.int W.np), e5', some (.lst (Pl.map .int))]) (i := 6) (g := cE (.int 0)) (m := m4) (m' := m4) rfl rfl H5.la.is hp
  obtain ⟨l3, r3⟩ := ref_tie H5.web H5.sk.st hpm (by rw [H5.mt]; omega) (by rw [H5.mt]; unfold Sm; decide)
  have H6 := H5.push l3
  have ln := len_c H6.web H6.sk.st
  have hl2 : (W'.ts.length : Int) = 200 := by omega
  rw [hl2] at ln
  obtain ⟨xa, xb, xc, ho⟩ := H6.web.obj
  obtain ⟨m5, hm5⟩ : ∃ m5, m5 = m4 ++ l3 := ⟨_, rfl⟩
  rw [← hm5] at r3 H6 ln ho
  have st5 : Stp [0, k] c1 m1 m5 c4 := by rw [hm5]; exact (st4.trans (Stp.push (ks := []) _)).sub (by simp)
  refine OK_of (a := (Fl.ret (.bl true), [some (.ptr b), some (.ptr w), some (.lst (W.ps.map .int)), some B, some (.int W.np), e5', some (.lst (Pl.map .int))])) (m := m5) (by
    generalize binE (varE 6) (cE (.int 0)) idxD = V1 at v1 ⊢
    generalize W.ps.map D.int = X at v1 ⊢
    generalize Pl.map D.int = Y at v1 ⊢
    simp -implicitDefEqProofs [ho, v1, r3, ln]) ⟨rfl, c4, W', H6.bag, H6.web, H6.sk.mono (by omega), hmk, hsub, st5⟩
end
end LW

set_option maxHeartbeats 4000000
namespace LW
open PySem PySem.Spec L2 DL
open PyProof.Rows hiding St

/-- is there a tie at it -/
def bn (W : Web) (p : Int) : Bool := !(W.ts.filter (atP p)).isEmpty
/-- what is kept when the first i of six are tried -/
def kept (W : Web) (i : Nat) (p : Int) : Bool := bn W p || !(decide (p ∈ (W.ps.take 6).take i))
def Wi (W : Web) (i : Nat) : Web := { W with ps := W.ps.filter (kept W i), mks := [W.stand] }
theorem bn_end {W : Web} {t : Tie} (h : t ∈ W.ts) : bn W t.2.1 = true ∧ bn W t.2.2.2 = true := by
  have g : ∀ p, atP p t = true → bn W p = true := fun p hp => by
    have : t ∈ W.ts.filter (atP p) := List.mem_filter.mpr ⟨h, hp⟩
    unfold bn
    cases q : W.ts.filter (atP p) with
    | nil => rw [q] at this; cases this
    | cons x xs => rfl
  exact ⟨g _ (by simp [atP]), g _ (by simp [atP])⟩
theorem sk_filter {P : Str → Prop} {n mp mt : Int} {ps : List Int} {ts : List Tie} {np nt : Int} {f : Int → Bool} (h : Sk P n mp mt (ps, ts, np, nt)) (hf : ∀ t ∈ ts, f t.2.1 = true ∧ f t.2.2.2 = true) : Sk P n mp mt (ps.filter f, ts, np, nt) := by
  obtain ⟨⟨pr, pl, tr, tl, te, n0, t0, few⟩, nm, hnp, hnt, lp, lt⟩ := h
  have hs : (ps.filter f).Sublist ps := List.filter_sublist
  have hl := hs.length_le
  refine ⟨⟨pr.sublist hs, fun q hq => pl q (hs.mem hq), tr, tl, fun t ht => ?_, n0, t0, by simp only at few ⊢; omega⟩, nm, hnp, hnt, by simp only at lp ⊢; omega, lt⟩
  have h1 := te t ht
  have h2 := hf t ht
  exact ⟨List.mem_filter.mpr ⟨h1.1, h2.1⟩, List.mem_filter.mpr ⟨h1.2, h2.2⟩⟩
theorem wi_sk {W : Web} {n : Int} (h : Sk Nm n 60 200 W.stand) (i : Nat) : Sk Nm n 60 200 (Wi W i).stand := sk_filter h fun t ht => by
  have := bn_end (W := W) ht
  unfold kept
  rw [this.1, this.2]
  exact ⟨rfl, rfl⟩
theorem wi_0 (W : Web) (hm : W.mks = []) : Wi W 0 = { W with mks := W.mks ++ [W.stand] } := by
  unfold Wi
  have : W.ps.filter (kept W 0) = W.ps := List.filter_eq_self.mpr fun p _ => by unfold kept; simp
  rw [this, hm]
  rfl
theorem wi_bn {W : Web} {i : Nat} {p : Int} (hp : (W.ps.take 6)[i]? = some p) (hb : bn W p = true) : Wi W (i + 1) = Wi W i := by
  unfold Wi
  have : W.ps.filter (kept W (i + 1)) = W.ps.filter (kept W i) := List.filter_congr fun q _ => by
    unfold kept
    rw [List.take_add_one, hp]
    by_cases e : q = p
    · rw [e, hb]; rfl
    · simp [e]
  rw [this]
theorem wi_no {W : Web} {i : Nat} {p : Int} (hp : (W.ps.take 6)[i]? = some p) (hb : bn W p = false) : Wi W (i + 1) = { Wi W i with ps := (Wi W i).ps.filter fun q => decide (q ≠ p) } := by
  unfold Wi
  have : W.ps.filter (kept W (i + 1)) = (W.ps.filter (kept W i)).filter fun q => decide (q ≠ p) := by
    rw [List.filter_filter]
    refine List.filter_congr fun q _ => ?_
    unfold kept
    rw [List.take_add_one, hp]
    by_cases e : q = p
    · rw [e, hb]; simp
    · simp [e]
  rw [this]
theorem wi_in {W : Web} (hr : W.ps.Pairwise (· < ·)) {i : Nat} {p : Int} (hp : (W.ps.take 6)[i]? = some p) : p ∈ (Wi W i).ps := by
  have hm : p ∈ W.ps := List.mem_of_mem_take (List.mem_of_getElem? hp)
  have hr' : (W.ps.take 6).Pairwise (· < ·) := hr.sublist (List.take_sublist _ _)
  refine List.mem_filter.mpr ⟨hm, ?_⟩
  unfold kept
  have : p ∉ (W.ps.take 6).take i := fun z => by
    obtain ⟨j, hj, e⟩ := List.mem_iff_getElem.mp z
    rw [List.length_take] at hj
    obtain ⟨hi, e2⟩ := List.getElem?_eq_some_iff.mp hp
    rw [List.getElem_take] at e
    have := List.pairwise_iff_getElem.mp hr' j i (by omega) hi (by omega)
    rw [e, e2] at this
    omega
  simp [this]
section
variable {b w k : Nat} {c1 c2 : Col} {m1 m2 : MS} {W : Web} {n : Int} {A B : D} {env : DL.Env} {f : DL.Env → MS → Res D}
theorem ne_E {X : List D} (hf : f env m1 = .ok (.lst X) m1) (hk : okDs 2 X = true) : valT (binE f (appE nilA mkLst) neD) env m1 = .ok (!X.isEmpty) m1 := by
  have h2 := (eqG_nil (a := .lst X) (ds := X) (ms := m1) (k := 2) rfl hk (by decide)).2
  simp -implicitDefEqProofs [hf, h2]
theorem in_l {neg : Bool} {i : Nat} {p : Int} {l : List Int} (hi : env[i]? = some (some (.int p))) (hf : f env m1 = .ok (.lst (l.map .int)) m1) : binE (varE i) f (inD neg) env m1 = .ok (.bl (xor neg (decide (p ∈ l)))) m1 := by
  have e := var_at (m := m1) hi
  have q1 := has_int p l
  have fa := flat_int l
  have fb := flat_int' l
  have fi : ∀ i, flatD (.int i) = true := fun _ => rfl
  generalize varE i = v at e ⊢
  generalize l.map D.int = P at hf q1 fa fb
  cases neg <;> by_cases z : p ∈ l <;> simp [z] at q1 <;> simp -implicitDefEqProofs [e, hf, q1, fa, fb, fi, z]
end
end LW

set_option maxHeartbeats 4000000
namespace LW
open PySem PySem.Spec L2 DL
open PyProof.Rows hiding St

section
variable {b w k : Nat} {c1 c2 : Col} {m1 m2 : MS} {W : Web} {n : Int}
/-- a web as it changes, and the law's own lists as they stay -/
structure Hx (k : Nat) (c : Col) (m : MS) (b w P T : Nat) (ps : List Int) (ts : List Tie) (W : Web) : Prop where
  bag : BagC c m b
  web : WebC k c m w W
  la : LsC c m (.ptr P) (ps.map .int)
  lb : LsC c m (.ptr T) (ts.map tieD)
variable {P T : Nat} {ps : List Int} {ts : List Tie}
theorem Hx.push (H : Hx k c1 m1 b w P T ps ts W) (l : MS) : Hx k c1 (m1 ++ l) b w P T ps ts W := ⟨H.bag.push l, H.web.push l, H.la.push l, H.lb.push l⟩
theorem Hx.draw (H : Hx k c1 m1 b w P T ps ts W) (hk : k ≠ 0) (g : Bg b m1 m2) : Hx k c1 m2 b w P T ps ts W := ⟨H.bag.go g, H.web.draw H.bag g hk, H.la.draw H.bag g, H.lb.draw H.bag g⟩
theorem Hx.go {W' : Web} (H : Hx k c1 m1 b w P T ps ts W) (hk : k ≠ 0 ∧ k ≠ 9) (hw : WebC k c2 m2 w W') (s : Stp [k] c1 m1 m2 c2) : Hx k c2 m2 b w P T ps ts W' :=
  ⟨H.bag.keep s (by simpa using Ne.symm hk.1), hw, H.la.keep s (by simpa using Ne.symm hk.2), H.lb.keep s (by simpa using Ne.symm hk.2)⟩
theorem as_a_web_ok (H : Hd k n c1 m1 b w (.ptr P) (.ptr T) W) (hk : k ≠ 0 ∧ k ≠ 9) (n0 : 0 ≤ n) (hn : n ≤ 7000000000000) (np : W.np = nxt W.ps) (hm : W.mks = []) :
    ∃ m2, sem__law_as_a_web [.ptr b, .ptr w, .ptr P, .ptr T] m1 = .ok (.bl true) m2 := by
  have f1 := H.f1
  have f2 := H.f2
  have wok : WOk W := ⟨H.sk.st, (by rw [hm]; exact fun s h => nomatch h), by rw [hm]; simp⟩
  suffices z : OK (sem__law_as_a_web [.ptr b, .ptr w, .ptr P, .ptr T] m1) fun d m2 => d = .bl true by
    obtain ⟨_, m2, e, rfl⟩ := z
    exact ⟨m2, e⟩
  rw [sem__law_as_a_web_eq]
  refine run_ok ?_
  unfold B__law_as_a_web
  -- a mark
  obtain ⟨m2, c2, e2, hw2, s2⟩ := mark_c H.web wok
  rw [← wi_0 W hm] at hw2
  rw [hm] at e2
  have e2' : sem_Web_mark [.ptr w] m1 = .ok (.int 0) m2 := e2
  obtain ⟨xa, xb, xc, ho⟩ := H.web.obj
  have H2 : Hx k c2 m2 b w P T W.ps W.ts (Wi W 0) := Hx.go (W := W) ⟨H.bag, H.web, H.la, H.lb⟩ hk hw2 s2
  refine seq_nx (env' := [some (.ptr b), some (.ptr w), some (.ptr P), some (.ptr T), none, none, none, none]) (ms1 := m2) (by simp -implicitDefEqProofs [ho, e2', alike_num]) ?_
  -- places with ties
  have fil : ∀ p, (W.ts.filter (atP p)).length ≤ 1000 := fun p => by have := (List.filter_sublist (l := W.ts) (p := atP p)).length_le; omega
  have s4 := comp_lf (mk := endL) (f := varE 2) (t := (valT (binE (compE endL (lstSrc (varE 3)) (nameT 7) (valT (binE (varE 5) (appE (consA (binE (varE 7) (cE (.int 1)) idxD) (consA (binE (varE 7) (cE (.int 3)) idxD) nilA)) mkLst) (inD false))) (varE 7) [7]) (appE nilA mkLst) neD))) (T := nameT 5) (vs := [5]) (e := varE 5) (env := [some (.ptr b), some (.ptr w), some (.ptr P), some (.ptr T), none, none, none, none]) (ms := m2) W.ps (bn W) D.int D.int rfl H2.la.is (by omega) (fun p hp => by
    have i1 := comp_lf (mk := endL) (f := varE 3) (t := (valT (binE (varE 5) (appE (consA (binE (varE 7) (cE (.int 1)) idxD) (consA (binE (varE 7) (cE (.int 3)) idxD) nilA)) mkLst) (inD false)))) (T := nameT 7) (vs := [7]) (e := varE 7) (env := [some (.ptr b), some (.ptr w), some (.ptr P), some (.ptr T), none, some (.int p), none, none]) (ms := m2) W.ts (atP p) tieD tieD rfl H2.lb.is (by omega) (fun t ht => by
      have q' := has_at p t
      cases q : atP p t with
      | true => rw [q] at q'; simp -implicitDefEqProofs [tieD, flatD, q']
      | false => rw [q] at q'; simp -implicitDefEqProofs [tieD, flatD, q'])
    have i2 := ne_E (m1 := m2) i1 (ok_ties fun t ht => H.sk.nm t ((List.mem_filter.mp ht).1))
    have i3 : (!((W.ts.filter (atP p)).map tieD).isEmpty) = bn W p := by unfold bn; simp
    rw [i3] at i2
    generalize (valT (binE (compE endL (lstSrc (varE 3)) (nameT 7) (valT (binE (varE 5) (appE (consA (binE (varE 7) (cE (.int 1)) idxD) (consA (binE (varE 7) (cE (.int 3)) idxD) nilA)) mkLst) (inD false))) (varE 7) [7]) (appE nilA mkLst) neD)) = V at i2 ⊢
    cases q : bn W p with
    | true => rw [q] at i2; simp -implicitDefEqProofs [i2]
    | false => rw [q] at i2; simp -implicitDefEqProofs [i2])
  refine seq_nx (set_nx s4) ?_
  obtain ⟨BL, hBL⟩ : ∃ BL, BL = W.ps.filter (bn W) := ⟨_, rfl⟩
  rw [← hBL]
  have inBL : ∀ p ∈ W.ps, decide (p ∈ BL) = bn W p := fun p hp => by
    rw [hBL]
    cases q : bn W p with
    | true => exact decide_eq_true (List.mem_filter.mpr ⟨hp, q⟩)
    | false => exact decide_eq_false fun z => by rw [(List.mem_filter.mp z).2] at q; cases q
  show OK (seqS _ _ [some (.ptr b), some (.ptr w), some (.ptr P), some (.ptr T), some (.lst (BL.map .int)), none, none, none] m2) _
  -- the first six tried
  refine seq_ok (P := fun env m => (∃ e5, env = [some (.ptr b), some (.ptr w), some (.ptr P), some (.ptr T), some (.lst (BL.map .int)), e5, none, none]) ∧ ∃ c, Hx k c m b w P T W.ps W.ts (Wi W (W.ps.take 6).length)) ?_ ?_
  · refine for_lst (W.ps.take 6) D.int (fun i env m => (∃ e5, env = [some (.ptr b), some (.ptr w), some (.ptr P), some (.ptr T), some (.lst (BL.map .int)), e5, none, none]) ∧ ∃ c, Hx k c m b w P T W.ps W.ts (Wi W i)) (d := .lst ((W.ps.take 6).map .int)) (ms1 := m2) ?_ (fun _ _ _ _ => rfl) ⟨⟨none, rfl⟩, c2, H2⟩ ?_
    · rw [List.map_take]
      exact slice_l (d := .ptr P) rfl H2.la.is (by simp; omega) 6
    · rintro i p env m hp ⟨⟨e5, rfl⟩, c, Hi⟩
      have hpm : p ∈ W.ps := List.mem_of_mem_take (List.mem_of_getElem? hp)
      have hpi := wi_in H.sk.st.pr hp
      have hsk := wi_sk H.sk i
      have hsm : Sm p := by
        have := H.sk.st.pl p hpm
        have h2 := H.sk.np
        simp only [Web.stand] at this h2
        unfold Sm
        omega
      refine turn_name ?_
      show OK (ifS _ _ _ [some (.ptr b), some (.ptr w), some (.ptr P), some (.ptr T), some (.lst (BL.map .int)), some (.int p), none, none] m) _
      cases q : bn W p with
      | true =>
        obtain ⟨l, r⟩ := ref_drop2 Hi.web hsk.st hpi (fun z => by
          have : (W.ts.filter (atP p)) = [] := z
          unfold bn at q
          rw [this] at q
          cases q) hsm
        have Hn := Hi.push l
        generalize m ++ l = m3 at r Hn
        have t1 := in_l (env := [some (.ptr b), some (.ptr w), some (.ptr P), some (.ptr T), some (.lst (BL.map .int)), some (.int p), none, none]) (m1 := m3) (neg := false) (i := 5) (p := p) (l := BL) (f := varE 4) rfl rfl
        rw [inBL p hpm, q] at t1
        refine OK_of (a := (Fl.nx, [some (.ptr b), some (.ptr w), some (.ptr P), some (.ptr T), some (.lst (BL.map .int)), some (.int p), none, none])) (m := m3) (by
          generalize binE (varE 5) (varE 4) (inD false) = V at t1 ⊢
          generalize BL.map D.int = X at t1 ⊢
          simp -implicitDefEqProofs [r, t1]) ⟨rfl, ⟨_, rfl⟩, c, by rw [wi_bn hp q]; exact Hn⟩
      | false =>
        obtain ⟨m3, c3, r, hw3, s3⟩ := ref_drop3 Hi.web hsk.st hpi (by
          unfold bn at q
          have : (W.ts.filter (atP p)).isEmpty = true := by simpa using q
          exact List.isEmpty_iff.mp this)
        have t1 := in_l (env := [some (.ptr b), some (.ptr w), some (.ptr P), some (.ptr T), some (.lst (BL.map .int)), some (.int p), none, none]) (m1 := m3) (neg := false) (i := 5) (p := p) (l := BL) (f := varE 4) rfl rfl
        rw [inBL p hpm, q] at t1
        refine OK_of (a := (Fl.nx, [some (.ptr b), some (.ptr w), some (.ptr P), some (.ptr T), some (.lst (BL.map .int)), some (.int p), none, none])) (m := m3) (by
          generalize binE (varE 5) (varE 4) (inD false) = V at t1 ⊢
          generalize BL.map D.int = X at t1 ⊢
          simp -implicitDefEqProofs [r, t1]) ⟨rfl, ⟨_, rfl⟩, c3, by rw [wi_no hp q]; exact Hi.go hk hw3 s3⟩
  rintro env m3 ⟨⟨e5, rfl⟩, c3, H3⟩
  have hsk3 := wi_sk H.sk (W.ps.take 6).length
  have hps3 : (Wi W (W.ps.take 6).length).ps = W.ps.filter fun p => bn W p || !(decide (p ∈ W.ps.take 6)) := by
    unfold Wi kept
    rw [List.take_length]
  -- what is left
  have s5 := comp_lf (mk := endL) (f := varE 2) (t := (orT (valT (binE (varE 5) (varE 4) (inD false))) (valT (binE (varE 5) (sliceE mkLst (varE 2) nonO (someO (cE (.int 6)))) (inD true))))) (T := nameT 5) (vs := [5]) (e := varE 5) (env := [some (.ptr b), some (.ptr w), some (.ptr P), some (.ptr T), some (.lst (BL.map .int)), e5, none, none]) (ms := m3) W.ps (fun p => bn W p || !(decide (p ∈ W.ps.take 6))) D.int D.int rfl H3.la.is (by omega) (fun p hp => by
    have t1 := in_l (env := [some (.ptr b), some (.ptr w), some (.ptr P), some (.ptr T), some (.lst (BL.map .int)), some (.int p), none, none]) (m1 := m3) (neg := false) (i := 5) (p := p) (l := BL) (f := varE 4) rfl rfl
    rw [inBL p hp] at t1
    have sl := slice_l (f := varE 2) (env := [some (.ptr b), some (.ptr w), some (.ptr P), some (.ptr T), some (.lst (BL.map .int)), some (.int p), none, none]) (d := .ptr P) rfl H3.la.is (by simp; omega) 6
    rw [← List.map_take] at sl
    have t2 := in_l (env := [some (.ptr b), some (.ptr w), some (.ptr P), some (.ptr T), some (.lst (BL.map .int)), some (.int p), none, none]) (m1 := m3) (neg := true) (i := 5) (p := p) (l := W.ps.take 6) (f := sliceE mkLst (varE 2) nonO (someO (cE (.int 6)))) rfl sl
    generalize binE (varE 5) (varE 4) (inD false) = V1 at t1 ⊢
    have t2' : binE (varE 5) (sliceE mkLst (varE 2) nonO (someO (cE (.int 6)))) (inD true) [some (.ptr b), some (.ptr w), some (.ptr P), some (.ptr T), some (.lst (BL.map .int)), some (.int p), none, none] m3 = .ok (.bl (xor true (decide (p ∈ W.ps.take 6)))) m3 := t2
    generalize binE (varE 5) (sliceE mkLst (varE 2) nonO (someO (cE (.int 6)))) (inD true) = V2 at t2' ⊢
    generalize BL.map D.int = X at t1 t2' ⊢
    generalize decide (p ∈ W.ps.take 6) = d6 at t2' ⊢
    cases q : bn W p with
    | true => rw [q] at t1; simp -implicitDefEqProofs [t1]
    | false =>
      rw [q] at t1
      cases d6 with
      | true => simp -implicitDefEqProofs [t1, t2']
      | false => simp -implicitDefEqProofs [t1, t2'])
  rw [← hps3] at s5
  generalize (W.ps.take 6).length = N at H3 hsk3 s5
  clear hps3
  refine seq_nx (set_nx s5) ?_
  show OK (seqS _ _ [some (.ptr b), some (.ptr w), some (.ptr P), some (.ptr T), some (.lst (BL.map .int)), e5, some (.lst ((Wi W N).ps.map .int)), none] m3) _
  have p1 := pl_E (env := [some (.ptr b), some (.ptr w), some (.ptr P), some (.ptr T), some (.lst (BL.map .int)), e5, some (.lst ((Wi W N).ps.map .int)), none]) (u := 1) (i := 6) (A := .lst ((Wi W N).ps.map .int)) H3.web hsk3.st (.inl rfl) rfl rfl
  have H4 := H3.push [.lst ((Wi W N).ps.map .int)]
  have p2 := ti_E (env := [some (.ptr b), some (.ptr w), some (.ptr P), some (.ptr T), some (.lst (BL.map .int)), e5, some (.lst ((Wi W N).ps.map .int)), none]) (u := 1) (i := 3) (A := .ptr T) H4.web hsk3.st H4.lb.is rfl rfl
  have H5 := H4.push [.lst ((Wi W N).ts.map tieD)]
  generalize m3 ++ [Cell.lst ((Wi W N).ps.map .int)] = m4 at p1 p2 H4 H5
  generalize m4 ++ [Cell.lst ((Wi W N).ts.map tieD)] = m5 at p2 H5
  generalize hX : (Wi W N).ps.map D.int = X at p1 p2 ⊢
  refine seq_nx (env' := [some (.ptr b), some (.ptr w), some (.ptr P), some (.ptr T), some (.lst (BL.map .int)), e5, some (.lst X), none]) (ms1 := m5) (by
    generalize appE (consA (methE "Web" "places" (varE 1) nilA (callP 1 sem_Web_places)) (consA (varE 6) nilA)) (callP 2 (sem__law_alike 5)) = v1 at p1 ⊢
    generalize appE (consA (methE "Web" "ties" (varE 1) nilA (callP 1 sem_Web_ties)) (consA (varE 3) nilA)) (callP 2 (sem__law_alike 5)) = v2 at p2 ⊢
    generalize BL.map D.int = Y at p1 p2 ⊢
    simp -implicitDefEqProofs [p1, p2]) ?_
  -- filled
  have G5 : Hd k n c3 m5 b w (.lst ((Wi W N).ps.map .int)) (.ptr T) (Wi W N) := ⟨H5.bag, H5.web, .inl rfl, H5.lb, hsk3, H.mp, H.mt⟩
  obtain ⟨m6, c6, W6, e6, b6, w6, k6, hmk6, hsub6, s6⟩ := filled_ok G5 hk n0 (by omega)
  have mx := maxd_ok (env := [some (.ptr b), some (.ptr w), some (.ptr P), some (.ptr T), some (.lst (BL.map .int)), e5, some (.lst X), none]) (m := m5) (f := varE 2) (d := .ptr P) rfl H5.la.is
  rw [hX] at e6
  have e6' : sem__law_filled [.ptr b, .ptr w, .lst X, .ptr T, .int (nxt W.ps)] m5 = .ok (.bl true) m6 := by rw [← np]; exact e6
  have nk : ∀ x : Nat, x = 9 → x ∉ [0, k] := fun x hx => by
    have := hk.2
    simp
    omega
  have H6 : Hx k c6 m6 b w P T W.ps W.ts W6 := ⟨b6, w6, H5.la.keep s6 (nk 9 rfl), H5.lb.keep s6 (nk 9 rfl)⟩
  refine seq_nx (env' := [some (.ptr b), some (.ptr w), some (.ptr P), some (.ptr T), some (.lst (BL.map .int)), e5, some (.lst X), none]) (ms1 := m6) (by
    generalize (binE (maxdE (varE 2) (unE (cE (.int 1)) negD)) (cE (.int 1)) addD) = v1 at mx ⊢
    generalize BL.map D.int = Y at mx ⊢
    simp -implicitDefEqProofs [mx, e6']) ?_
  -- one cut
  have mk6 : W6.mks = [W.stand] := hmk6
  refine seq_ok (P := fun env m => env = [some (.ptr b), some (.ptr w), some (.ptr P), some (.ptr T), some (.lst (BL.map .int)), e5, some (.lst X), none] ∧ ∃ c W', Hx k c m b w P T W.ps W.ts W' ∧ StOk W'.stand ∧ W'.mks = [W.stand] ∧ W'.mp = W6.mp ∧ W'.mt = W6.mt) ?_ ?_
  · have l2 := ne_l (env := [some (.ptr b), some (.ptr w), some (.ptr P), some (.ptr T), some (.lst (BL.map .int)), e5, some (.lst X), none]) (i := 3) rfl H6.lb.is (ok_ties H.sk.nm)
    by_cases h : 0 < W.ts.length
    · have h1 : (!(W.ts.map tieD).isEmpty) = true := by
        have a2 : W.ts ≠ [] := fun z => by rw [z] at h; simp at h
        simp [a2]
      rw [h1] at l2
      rw [set_if l2]
      obtain ⟨t, m7, ht, e7, B7⟩ := pick_l (env := [some (.ptr b), some (.ptr w), some (.ptr P), some (.ptr T), some (.lst (BL.map .int)), e5, some (.lst X), none]) (i := 3) (l := W.ts) (it := tieD) rfl rfl H6.bag H6.lb ⟨h, by omega⟩
      have H7 := H6.draw hk.1 B7
      obtain ⟨m8, c8, e8, w8, s8⟩ := cut_c H7.web k6.st (hsub6 t ht)
      obtain ⟨xa, xb, xc, ho⟩ := H6.web.obj
      refine OK_of (a := (Fl.nx, [some (.ptr b), some (.ptr w), some (.ptr P), some (.ptr T), some (.lst (BL.map .int)), e5, some (.lst X), none])) (m := m8) (by
        generalize binE (varE 3) (appE (consA (varE 0) (consA (appE (consA (varE 3) nilA) lenP) nilA)) (callP 2 sem__law_draw)) idxD = v1 at e7 ⊢
        generalize BL.map D.int = Y at e7 ⊢
        simp -implicitDefEqProofs [ho, e7, e8, tieD]) ⟨rfl, rfl, c8, _, H7.go hk w8 s8, (Sk.cut k6 _).st, mk6, rfl, rfl⟩
    · have h1 : (!(W.ts.map tieD).isEmpty) = false := by
        have : W.ts = [] := List.length_eq_zero_iff.mp (by omega)
        simp [this]
      rw [h1] at l2
      rw [set_else l2]
      exact OK_of (m := m6) rfl ⟨rfl, rfl, c6, W6, H6, k6.st, mk6, rfl, rfl⟩
  rintro env m7 ⟨rfl, c7, W7, H7, st7, mk7, _, _⟩
  -- undone
  obtain ⟨m8, c8, e8, w8, s8⟩ := undo_c (m := 0) (s := W.stand) H7.web ⟨st7, (fun s hs => by rw [mk7, List.mem_singleton] at hs; rw [hs]; exact H.sk.st), by rw [mk7]; simp⟩ (by rw [mk7]; rfl)
  have e8' : sem_Web_undo [.ptr w, .int 0] m7 = .ok .non m8 := e8
  have H8 := H7.go hk w8 s8
  obtain ⟨xa, xb, xc, ho⟩ := H7.web.obj
  refine seq_nx (env' := [some (.ptr b), some (.ptr w), some (.ptr P), some (.ptr T), some (.lst (BL.map .int)), e5, some (.lst X), none]) (ms1 := m8) (by
    generalize BL.map D.int = Y
    simp -implicitDefEqProofs [ho, e8']) ?_
  have st8 := H.sk.st
  obtain ⟨W8, hW8⟩ : ∃ W8 : Web, W8 = { W7 with ps := W.stand.1, ts := W.stand.2.1, np := W.stand.2.2.1, nt := W.stand.2.2.2, mks := W7.mks.take (0 + 1) } := ⟨_, rfl⟩
  rw [← hW8] at H8
  have q1 : W8.ps = W.ps := by rw [hW8]; rfl
  have q2 : W8.ts = W.ts := by rw [hW8]; rfl
  have q3 : W8.stand = W.stand := by rw [hW8]; rfl
  obtain ⟨t1, t2⟩ := text_E (env := [some (.ptr b), some (.ptr w), some (.ptr P), some (.ptr T), some (.lst (BL.map .int)), e5, some (.lst X), none]) (u := 1) (i := 2) (j := 3) (A := .ptr P) (B := .ptr T) H8.web (by rw [q3]; exact st8) (by rw [q1, q2]; exact sk_nok H.sk (by omega)) (by rw [q1]; exact H8.la.is) (by rw [q2]; exact H8.lb.is) rfl rfl rfl
  refine seq_nx (env' := [some (.ptr b), some (.ptr w), some (.ptr P), some (.ptr T), some (.lst (BL.map .int)), e5, some (.lst X), none]) (ms1 := m8) (by
    generalize appE (consA (varE 1) nilA) (callP 1 sem_web_text) = v1 at t1 ⊢
    generalize appE (consA (varE 2) (consA (varE 3) nilA)) (callP 2 sem__law_web_written) = v2 at t2 ⊢
    generalize BL.map D.int = Y at t1 t2 ⊢
    simp -implicitDefEqProofs [t1, t2]) ?_
  have p3 := pl_E (env := [some (.ptr b), some (.ptr w), some (.ptr P), some (.ptr T), some (.lst (BL.map .int)), e5, some (.lst X), none]) (u := 1) (i := 2) (A := .ptr P) H8.web (by rw [q3]; exact st8) (by rw [q1]; exact H8.la.is) rfl rfl
  have H9 := H8.push [.lst (W8.ps.map .int)]
  have p4 := ti_E (env := [some (.ptr b), some (.ptr w), some (.ptr P), some (.ptr T), some (.lst (BL.map .int)), e5, some (.lst X), none]) (u := 1) (i := 3) (A := .ptr T) H9.web (by rw [q3]; exact st8) (by rw [q2]; exact H9.lb.is) rfl rfl
  generalize m8 ++ [Cell.lst (W8.ps.map .int)] = m9 at p3 p4
  generalize m9 ++ [Cell.lst (W8.ts.map tieD)] = m10 at p4
  refine OK_of (a := (Fl.ret (.bl true), [some (.ptr b), some (.ptr w), some (.ptr P), some (.ptr T), some (.lst (BL.map .int)), e5, some (.lst X), none])) (m := m10) (by
    generalize appE (consA (methE "Web" "places" (varE 1) nilA (callP 1 sem_Web_places)) (consA (varE 2) nilA)) (callP 2 (sem__law_alike 5)) = v1 at p3 ⊢
    generalize appE (consA (methE "Web" "ties" (varE 1) nilA (callP 1 sem_Web_ties)) (consA (varE 3) nilA)) (callP 2 (sem__law_alike 5)) = v2 at p4 ⊢
    generalize BL.map D.int = Y at p3 p4 ⊢
    simp -implicitDefEqProofs [p3, p4]) rfl
end
end LW

set_option maxHeartbeats 4000000
namespace LW
open PySem PySem.Spec L2 DL
open PyProof.Rows hiding St

theorem wr_sk {b P T : Nat} {m : MS} {ps : List Int} {ts : List Tie} (h : Drawn b P T m ps ts) : Sk Nm 3000000000000 60 200 (WR ps ts).stand where
  st := h.bd.st
  nm := fun t ht => (h.bd.n.t t ht).c
  np := h.sp
  nt := h.st
  lp := by have := h.bd.lp; show (ps.length : Int) ≤ 60; omega
  lt := by have := h.bd.lt; show (ts.length : Int) ≤ 200; omega
theorem hlaw : ∀ ns : List Int, ns.length ≤ 63 → ∃ ms, sem_law [.ro (ns.map D.int)] [] = .ok (.bl true) ms := by
  intro ns hl
  suffices z : OK (sem_law [.ro (ns.map D.int)] []) fun d _ => d = .bl true by
    obtain ⟨_, m, e, rfl⟩ := z
    exact ⟨m, e⟩
  obtain ⟨_, m1, e1, rfl, ⟨_, _⟩, hb1⟩ := bag_ok (ns := ns) (ms := []) hl
  rw [sem_law_eq]
  refine run_ok ?_
  unfold B_law
  generalize D.ro (ns.map D.int) = S at e1 ⊢
  have hb1' : Bag 0 m1 := hb1
  have e1' : sem__law_bag [S] [] = .ok (.ptr 0) m1 := e1
  refine seq_nx (env' := [some S, some (.ptr 0), none, none, none, none, none, none, none]) (ms1 := m1) (by simp -implicitDefEqProofs [e1']) ?_
  obtain ⟨_, m2, d2, g, rfl, g0, g1, B2⟩ := draw_ok hb1' (many := 4) (by decide) (by decide)
  refine seq_nx (env' := [some S, some (.ptr 0), some (.bl (g == 3)), none, none, none, none, none, none]) (ms1 := m2) (by simp -implicitDefEqProofs [d2]) ?_
  -- how many
  refine seq_ok (P := fun env m => ∃ np nt : Nat, env = [some S, some (.ptr 0), some (.bl (g == 3)), some (.lst [.int np, .int nt]), none, none, none, none, none] ∧ np ≤ 60 ∧ nt ≤ 200 ∧ Bag 0 m) ?_ ?_
  · cases q : g == 3 with
    | true =>
      obtain ⟨_, m3, d3, x, rfl, x0, x1, B3⟩ := draw_ok B2.bag (many := 61) (by decide) (by decide)
      obtain ⟨_, m4, d4, y, rfl, y0, y1, B4⟩ := draw_ok B3.bag (many := 201) (by decide) (by decide)
      obtain ⟨x, rfl⟩ := Int.eq_ofNat_of_zero_le x0
      obtain ⟨y, rfl⟩ := Int.eq_ofNat_of_zero_le y0
      exact OK_of (a := (Fl.nx, [some S, some (.ptr 0), some (.bl true), some (.lst [.int x, .int y]), none, none, none, none, none])) (m := m4) (by simp -implicitDefEqProofs [d3, d4]) ⟨rfl, x, y, rfl, by omega, by omega, B4.bag⟩
    | false =>
      obtain ⟨_, m3, d3, x, rfl, x0, x1, B3⟩ := draw_ok B2.bag (many := 9) (by decide) (by decide)
      obtain ⟨_, m4, d4, y, rfl, y0, y1, B4⟩ := draw_ok B3.bag (many := 11) (by decide) (by decide)
      obtain ⟨x, rfl⟩ := Int.eq_ofNat_of_zero_le x0
      obtain ⟨y, rfl⟩ := Int.eq_ofNat_of_zero_le y0
      exact OK_of (a := (Fl.nx, [some S, some (.ptr 0), some (.bl false), some (.lst [.int x, .int y]), none, none, none, none, none])) (m := m4) (by simp -implicitDefEqProofs [d3, d4]) ⟨rfl, x, y, rfl, by omega, by omega, B4.bag⟩
  rintro env m3 ⟨np, nt, rfl, hnp, hnt, hb3⟩
  obtain ⟨_, m4, d4, far, rfl, fa0, fa1, B4⟩ := draw_ok hb3 (many := 4) (by decide) (by decide)
  obtain ⟨_, m5, e5, P, T, ps, ts, rfl, Dr⟩ := law_web_ok (np := np) (nt := nt) (far := far) B4.bag hnp hnt ⟨fa0, fa1⟩
  refine seq_nx (env' := [some S, some (.ptr 0), some (.bl (g == 3)), some (.lst [.int np, .int nt]), some (.ptr P), some (.ptr T), none, none, none]) (ms1 := m5) (by simp -implicitDefEqProofs [d4, e5]) ?_
  -- the text, and the two webs
  have hsk := wr_sk Dr
  have e6 := written_ok (ms := m5) (A := .ptr P) (B := .ptr T) (.inr ⟨P, rfl, Dr.p⟩) (.inr ⟨T, rfl, Dr.t⟩) Dr.bd.n
  obtain ⟨X, hX⟩ : ∃ X, X = written ps ts := ⟨_, rfl⟩
  obtain ⟨c5, hc5⟩ : ∃ c5 : Col, c5 = fun n => if n = 0 then 0 else 9 := ⟨_, rfl⟩
  obtain ⟨m6, w, c6, e7, w6, s6⟩ := read_c 1 Dr.bd c5 m5
  obtain ⟨m7, v, c7, e8, w7, s7⟩ := read_c 2 Dr.bd c6 m6
  rw [← hX] at e6 e7 e8
  have b5 : BagC c5 m5 0 := ⟨Dr.bag, by rw [hc5]; rfl⟩
  have lp5 : LsC c5 m5 (.ptr P) (ps.map .int) := .inr ⟨P, rfl, Dr.p, by rw [hc5]; exact if_neg Dr.np⟩
  have lt5 : LsC c5 m5 (.ptr T) (ts.map tieD) := .inr ⟨T, rfl, Dr.t, by rw [hc5]; exact if_neg Dr.nt⟩
  have s57 := s6.trans s7
  have O7 : Hd 1 3000000000000 c7 m7 0 w (.ptr P) (.ptr T) (WR ps ts) := ⟨b5.keep s57 (by simp), w6.keep s7 (by simp), lp5.keep s57 (by simp), lt5.keep s57 (by simp), hsk, rfl, rfl⟩
  refine seq_nx (env' := [some S, some (.ptr 0), some (.bl (g == 3)), some (.lst [.int np, .int nt]), some (.ptr P), some (.ptr T), some (.str X), none, none]) (ms1 := m5) (by simp -implicitDefEqProofs [e6]) ?_
  refine seq_nx (env' := [some S, some (.ptr 0), some (.bl (g == 3)), some (.lst [.int np, .int nt]), some (.ptr P), some (.ptr T), some (.str X), some (.ptr w), none]) (ms1 := m6) (by simp -implicitDefEqProofs [e7]) ?_
  refine seq_nx (env' := [some S, some (.ptr 0), some (.bl (g == 3)), some (.lst [.int np, .int nt]), some (.ptr P), some (.ptr T), some (.str X), some (.ptr w), some (.ptr v)]) (ms1 := m7) (by simp -implicitDefEqProofs [e8]) ?_
  obtain ⟨E, hE⟩ : ∃ E, E = [some S, some (.ptr 0), some (.bl (g == 3)), some (.lst [.int np, .int nt]), some (.ptr P), some (.ptr T), some (.str X), some (.ptr w), some (.ptr v)] := ⟨_, rfl⟩
  have x1 : E[1]? = some (some (.ptr 0)) := by rw [hE]; rfl
  have x4 : E[4]? = some (some (.ptr P)) := by rw [hE]; rfl
  have x5 : E[5]? = some (some (.ptr T)) := by rw [hE]; rfl
  have x6 : E[6]? = some (some (.str X)) := by rw [hE]; rfl
  have x7 : E[7]? = some (some (.ptr w)) := by rw [hE]; rfl
  have x8 : E[8]? = some (some (.ptr v)) := by rw [hE]; rfl
  rw [← hE]
  clear hE
  have fT : ts.length ≤ 1000 := Dr.bd.n.few.2
  have sT := O7.sk.st
  have nX := Dr.bd.n
  -- one as it shall be
  have p1 := pl_E (u := 7) (i := 4) O7.web sT O7.la.is x7 x4
  have O8 := O7.push [.lst (ps.map .int)]
  have p2 := ti_E (u := 7) (i := 5) O8.web sT O8.lb.is x7 x5
  have O9 := O8.push [.lst (ts.map tieD)]
  have w9 := (w7.push [.lst (ps.map .int)]).push [.lst (ts.map tieD)]
  have p1' : appE (consA (methE "Web" "places" (varE 7) nilA (callP 1 sem_Web_places)) (consA (varE 4) nilA)) (callP 2 (sem__law_alike 5)) E m7 = .ok (.bl true) (m7 ++ [.lst (ps.map .int)]) := p1
  have p2' : appE (consA (methE "Web" "ties" (varE 7) nilA (callP 1 sem_Web_ties)) (consA (varE 5) nilA)) (callP 2 (sem__law_alike 5)) E (m7 ++ [.lst (ps.map .int)]) = .ok (.bl true) (m7 ++ [.lst (ps.map .int)] ++ [.lst (ts.map tieD)]) := p2
  clear p1 p2
  generalize m7 ++ [Cell.lst (ps.map .int)] = m8 at p1' p2' O8 O9 w9
  generalize m8 ++ [Cell.lst (ts.map tieD)] = m9 at p2' O9 w9
  have ln : ∀ {u : Nat} {c : Col} {m : MS} {a k : Nat}, WebC k c m a (WR ps ts) → E[u]? = some (some (.ptr a)) → lenOE "Web" sem_Web___len__ (varE u) E m = .ok (.int ts.length) m := fun {u c m a k} h hu => by
    have e := len_c h sT
    have e' : sem_Web___len__ [.ptr a] m = .ok (.int ts.length) m := e
    obtain ⟨xa, xb, xc, ho⟩ := h.obj
    have ev := var_at (m := m) hu
    have q1 : (ts.length : Int) < 9223372036854775808 := by omega
    generalize varE u = V at ev ⊢
    simp -implicitDefEqProofs [ev, ho, e', q1]
  have ll := len_l (m := m9) (i := 5) x5 O9.lb.is (by show (ts.map tieD).length ≤ _; rw [List.length_map]; omega)
  have ll' : appE (consA (varE 5) nilA) lenP E m9 = .ok (.int ts.length) m9 := by rw [ll]; show Res.ok (D.int ((ts.map tieD).length : Int)) m9 = _; rw [List.length_map]
  refine seq_nx (env' := E) (ms1 := m9) (by
    have l9 := ln O9.web x7
    generalize appE (consA (methE "Web" "places" (varE 7) nilA (callP 1 sem_Web_places)) (consA (varE 4) nilA)) (callP 2 (sem__law_alike 5)) = v1 at p1' ⊢
    generalize appE (consA (methE "Web" "ties" (varE 7) nilA (callP 1 sem_Web_ties)) (consA (varE 5) nilA)) (callP 2 (sem__law_alike 5)) = v2 at p2' ⊢
    generalize lenOE "Web" sem_Web___len__ (varE 7) = v3 at l9 ⊢
    generalize appE (consA (varE 5) nilA) lenP = v4 at ll' ⊢
    simp -implicitDefEqProofs [p1', p2', l9, ll']) ?_
  -- its text, no mark, its ends
  obtain ⟨t1, _⟩ := text_E (u := 7) (i := 4) (j := 5) O9.web sT nX O9.la.is O9.lb.is x7 x4 x5
  have t1' : appE (consA (varE 7) nilA) (callP 1 sem_web_text) E m9 = .ok (.str X) m9 := by rw [hX]; exact t1
  have nm := no_mark_ok O9.web ⟨sT, (fun s h => nomatch h), by simp [WR]⟩ rfl
  obtain ⟨hP9, kP9⟩ : m9[P]? = some (.lst (ps.map .int)) ∧ c7 P = 9 := by
    rcases O9.la with z | ⟨_, z, q1, q2⟩
    · cases z
    · cases z; exact ⟨q1, q2⟩
  obtain ⟨hT9, kT9⟩ : m9[T]? = some (.lst (ts.map tieD)) ∧ c7 T = 9 := by
    rcases O9.lb with z | ⟨_, z, q1, q2⟩
    · cases z
    · cases z; exact ⟨q1, q2⟩
  obtain ⟨m10, e10, b10, s10⟩ := ends_right_ok O9.bag O9.web (by decide) sT hP9 hT9 kP9 kT9
  have O10 : Hd 1 3000000000000 c7 m10 0 w (.ptr P) (.ptr T) (WR ps ts) := ⟨b10, O9.web.keep s10 (by simp), O9.la.keep s10 (by simp), O9.lb.keep s10 (by simp), hsk, rfl, rfl⟩
  have w10 := w9.keep s10 (by simp)
  refine seq_nx (env' := E) (ms1 := m10) (by
    have y1 := var_at (m := m9) x1
    have y4 := var_at (m := m9) x4
    have y5 := var_at (m := m9) x5
    have y6 := var_at (m := m9) x6
    have y7 := var_at (m := m9) x7
    generalize appE (consA (varE 7) nilA) (callP 1 sem_web_text) = v0 at t1' ⊢
    generalize varE 1 = v1 at y1 ⊢
    generalize varE 4 = v4 at y4 ⊢
    generalize varE 5 = v5 at y5 ⊢
    generalize varE 6 = v6 at y6 ⊢
    generalize varE 7 = v7 at y7 ⊢
    simp -implicitDefEqProofs [t1', y1, y4, y5, y6, y7, nm, e10]) ?_
  -- more deeds
  obtain ⟨m11, c11, e11, b11, s11⟩ := more_right_ok O10 (by decide) (by decide) rfl rfl
  have w11 := w10.keep s11 (by simp)
  have O11 : Hd 2 3000000000000 c11 m11 0 v (.ptr P) (.ptr T) (WR ps ts) := ⟨b11, w11, O10.la.keep s11 (by simp), O10.lb.keep s11 (by simp), hsk, rfl, rfl⟩
  refine seq_nx (env' := E) (ms1 := m11) (by
    have y1 := var_at (m := m10) x1
    have y4 := var_at (m := m10) x4
    have y5 := var_at (m := m10) x5
    have y7 := var_at (m := m10) x7
    generalize varE 1 = v1 at y1 ⊢
    generalize varE 4 = v4 at y4 ⊢
    generalize varE 5 = v5 at y5 ⊢
    generalize varE 7 = v7 at y7 ⊢
    simp -implicitDefEqProofs [y1, y4, y5, y7, e11]) ?_
  -- two as it shall be
  have p3 := pl_E (u := 8) (i := 4) O11.web sT O11.la.is x8 x4
  have O12 := O11.push [.lst (ps.map .int)]
  have p4 := ti_E (u := 8) (i := 5) O12.web sT O12.lb.is x8 x5
  have O13 := O12.push [.lst (ts.map tieD)]
  have p3' : appE (consA (methE "Web" "places" (varE 8) nilA (callP 1 sem_Web_places)) (consA (varE 4) nilA)) (callP 2 (sem__law_alike 5)) E m11 = .ok (.bl true) (m11 ++ [.lst (ps.map .int)]) := p3
  have p4' : appE (consA (methE "Web" "ties" (varE 8) nilA (callP 1 sem_Web_ties)) (consA (varE 5) nilA)) (callP 2 (sem__law_alike 5)) E (m11 ++ [.lst (ps.map .int)]) = .ok (.bl true) (m11 ++ [.lst (ps.map .int)] ++ [.lst (ts.map tieD)]) := p4
  clear p3 p4
  generalize m11 ++ [Cell.lst (ps.map .int)] = m12 at p3' p4' O12 O13
  generalize m12 ++ [Cell.lst (ts.map tieD)] = m13 at p4' O13
  have t3 := text_c O13.web sT nX
  have t3' : sem_web_text [.ptr v] m13 = .ok (.str X) m13 := by rw [hX]; exact t3
  refine seq_nx (env' := E) (ms1 := m13) (by
    have y6 := var_at (m := m13) x6
    have y8 := var_at (m := m13) x8
    generalize appE (consA (methE "Web" "places" (varE 8) nilA (callP 1 sem_Web_places)) (consA (varE 4) nilA)) (callP 2 (sem__law_alike 5)) = v1 at p3' ⊢
    generalize appE (consA (methE "Web" "ties" (varE 8) nilA (callP 1 sem_Web_ties)) (consA (varE 5) nilA)) (callP 2 (sem__law_alike 5)) = v2 at p4' ⊢
    generalize varE 6 = v6 at y6 ⊢
    generalize varE 8 = v8 at y8 ⊢
    simp -implicitDefEqProofs [p3', p4', y6, y8, t3']) ?_
  obtain ⟨m14, e14⟩ := as_a_web_ok O13 (by decide) (by decide) (by decide) rfl rfl
  refine OK_of (a := (Fl.ret (.bl true), E)) (m := m14) (by
    have y1 := var_at (m := m13) x1
    have y4 := var_at (m := m13) x4
    have y5 := var_at (m := m13) x5
    have y8 := var_at (m := m13) x8
    generalize varE 1 = v1 at y1 ⊢
    generalize varE 4 = v4 at y4 ⊢
    generalize varE 5 = v5 at y5 ⊢
    generalize varE 8 = v8 at y8 ⊢
    simp -implicitDefEqProofs [y1, y4, y5, y8, e14]) rfl
end LW

set_option maxHeartbeats 2000000
namespace LW
open PySem PySem.Spec L2 DL
open PyProof.Rows hiding St
theorem all_mk {l : PySem.W.OpenLaw} {w : World} {K : PySem.W.Frag} {h : Heap} {mg : Str → Option Value} {fa : Addr} {f0 f1 f2 f3 f4 f5 f6 f7 f8 f9 f10 f11 f12 f13 f14 f15 f16 f17 f18 f19 f20 f21 f22 f23 f24 f25 f26 f27 f28 f29 f30 f31 f32 f33 f34 f35 f36 f37 f38 : Addr} (X : K.In h) (G : h.Ns mainGlobals mg) (hfa : mg "law" = some (.ref fa))
    {kD6 : Addr}
    {od0 an0 od1 an1 od2 an2 od3 an3 od4 an4 od5 an5 od6 an6 od7 an7 od8 an8 od9 an9 od10 an10 od11 an11 od12 an12 od13 an13 od14 an14 od15 an15 od16 an16 od17 an17 od18 an18 od19 an19 od20 an20 od21 an21 od22 an22 od23 an23 od24 an24 od25 an25 od26 an26 od27 an27 od28 an28 od29 an29 od30 an30 od31 an31 od32 an32 od33 an33 od34 an34 od35 an35 od36 an36 od37 an37 od38 an38 : Option Addr} {sl0 sl1 sl2 sl3 sl4 sl5 sl6 sl7 sl8 sl9 sl10 sl11 sl12 sl13 sl14 sl15 sl16 sl17 sl18 sl19 sl20 sl21 sl22 sl23 sl24 sl25 sl26 sl27 sl28 sl29 sl30 sl31 sl32 sl33 sl34 sl35 sl36 sl37 sl38 : Array (Option Value)} {oc0 kV0 dc0 pm0 cd0 ct0 oc1 kV1 dc1 pm1 cd1 ct1 oc2 kV2 dc2 pm2 cd2 ct2 oc3 kV3 dc3 pm3 cd3 ct3 oc4 kV4 dc4 pm4 cd4 ct4 oc5 kV5 dc5 pm5 cd5 ct5 oc6 dc6 pm6 cd6 ct6 oc7 kV7 dc7 pm7 cd7 ct7 oc8 kV8 dc8 pm8 cd8 ct8 oc9 kV9 dc9 pm9 cd9 ct9 oc10 kV10 dc10 pm10 cd10 ct10 oc11 kV11 dc11 pm11 cd11 ct11 oc12 kV12 dc12 pm12 cd12 ct12 oc13 kV13 dc13 pm13 cd13 ct13 oc14 kV14 dc14 pm14 cd14 ct14 oc15 kV15 dc15 pm15 cd15 ct15 oc16 kV16 dc16 pm16 cd16 ct16 oc17 kV17 dc17 pm17 cd17 ct17 oc18 kV18 dc18 pm18 cd18 ct18 oc19 kV19 dc19 pm19 cd19 ct19 oc20 kV20 dc20 pm20 cd20 ct20 oc21 kV21 dc21 pm21 cd21 ct21 oc22 kV22 dc22 pm22 cd22 ct22 oc23 kV23 dc23 pm23 cd23 ct23 oc24 kV24 dc24 pm24 cd24 ct24 oc25 kV25 dc25 pm25 cd25 ct25 oc26 kV26 dc26 pm26 cd26 ct26 oc27 kV27 dc27 pm27 cd27 ct27 oc28 kV28 dc28 pm28 cd28 ct28 oc29 kV29 dc29 pm29 cd29 ct29 oc30 kV30 dc30 pm30 cd30 ct30 oc31 kV31 dc31 pm31 cd31 ct31 oc32 kV32 dc32 pm32 cd32 ct32 oc33 kV33 dc33 pm33 cd33 ct33 oc34 kV34 dc34 pm34 cd34 ct34 oc35 kV35 dc35 pm35 cd35 ct35 oc36 kV36 dc36 pm36 cd36 ct36 oc37 kV37 dc37 pm37 cd37 ct37 oc38 kV38 dc38 pm38 cd38 ct38 : Value}
    {Cl_Web : Addr} (ac_Web : PySem.W.nsIn K mainGlobals "Web" = some (some (.ref Cl_Web))) (pg_Web : PySem.W.plainGet K Cl_Web Str.empty = true) (hd_Web : PySem.W.hasDictIn K Cl_Web = true) (po_Web : PySem.W.plainOver K Cl_Web = true) (sa_Web : PySem.W.findIn K (.ref Cl_Web) "__setattr__" = some (some (.builtin "object.__setattr__"))) (mk_Web : PySem.W.makesIn K Cl_Web = true) (kc_Web : PySem.W.keepIn K (.ref Cl_Web) = true)
    (nf_Web__most_places : PySem.W.findIn K (.ref Cl_Web) "_most_places" = some none)
    (nf_Web__most_ties : PySem.W.findIn K (.ref Cl_Web) "_most_ties" = some none)
    (nf_Web__places : PySem.W.findIn K (.ref Cl_Web) "_places" = some none)
    (nf_Web__ties : PySem.W.findIn K (.ref Cl_Web) "_ties" = some none)
    (nf_Web__next_place : PySem.W.findIn K (.ref Cl_Web) "_next_place" = some none)
    (nf_Web__next_tie : PySem.W.findIn K (.ref Cl_Web) "_next_tie" = some none)
    (nf_Web__marks : PySem.W.findIn K (.ref Cl_Web) "_marks" = some none)
    (a0 : PySem.W.nsIn K mainGlobals "_law_bag" = some (some (.ref f0))) (l0 : K.lookup f0 = some ⟨oc0, od0, .func (PySem.W.fnOf "_law_bag" "_law_bag" (defArgs s__law_bag) (defBody s__law_bag) (defScope s__law_bag) .none kV0 dc0 pm0 an0 cd0 ct0), sl0⟩) (c0 : PySem.W.codeIn K cd0 "_law_bag" = true) (k0 : PySem.W.keepIn K (.ref f0) = true)
    (a1 : PySem.W.nsIn K mainGlobals "_law_stirred" = some (some (.ref f1))) (l1 : K.lookup f1 = some ⟨oc1, od1, .func (PySem.W.fnOf "_law_stirred" "_law_stirred" (defArgs s__law_stirred) (defBody s__law_stirred) (defScope s__law_stirred) .none kV1 dc1 pm1 an1 cd1 ct1), sl1⟩) (c1 : PySem.W.codeIn K cd1 "_law_stirred" = true) (k1 : PySem.W.keepIn K (.ref f1) = true)
    (a2 : PySem.W.nsIn K mainGlobals "_law_draw" = some (some (.ref f2))) (l2 : K.lookup f2 = some ⟨oc2, od2, .func (PySem.W.fnOf "_law_draw" "_law_draw" (defArgs s__law_draw) (defBody s__law_draw) (defScope s__law_draw) .none kV2 dc2 pm2 an2 cd2 ct2), sl2⟩) (c2 : PySem.W.codeIn K cd2 "_law_draw" = true) (k2 : PySem.W.keepIn K (.ref f2) = true)
    (a3 : PySem.W.nsIn K mainGlobals "_law_name" = some (some (.ref f3))) (l3 : K.lookup f3 = some ⟨oc3, od3, .func (PySem.W.fnOf "_law_name" "_law_name" (defArgs s__law_name) (defBody s__law_name) (defScope s__law_name) .none kV3 dc3 pm3 an3 cd3 ct3), sl3⟩) (c3 : PySem.W.codeIn K cd3 "_law_name" = true) (k3 : PySem.W.keepIn K (.ref f3) = true)
    (a4 : PySem.W.nsIn K mainGlobals "_law_web" = some (some (.ref f4))) (l4 : K.lookup f4 = some ⟨oc4, od4, .func (PySem.W.fnOf "_law_web" "_law_web" (defArgs s__law_web) (defBody s__law_web) (defScope s__law_web) .none kV4 dc4 pm4 an4 cd4 ct4), sl4⟩) (c4 : PySem.W.codeIn K cd4 "_law_web" = true) (k4 : PySem.W.keepIn K (.ref f4) = true)
    (a5 : PySem.W.nsIn K mainGlobals "_law_web_written" = some (some (.ref f5))) (l5 : K.lookup f5 = some ⟨oc5, od5, .func (PySem.W.fnOf "_law_web_written" "_law_web_written" (defArgs s__law_web_written) (defBody s__law_web_written) (defScope s__law_web_written) .none kV5 dc5 pm5 an5 cd5 ct5), sl5⟩) (c5 : PySem.W.codeIn K cd5 "_law_web_written" = true) (k5 : PySem.W.keepIn K (.ref f5) = true)
    (a6 : PySem.W.findIn K (.ref Cl_Web) "__init__" = some (some (.ref f6))) (i6 : PySem.W.isFn K (.ref f6) = true) (l6 : K.lookup f6 = some ⟨oc6, od6, .func (PySem.W.fnOf "__init__" "Web.__init__" (defArgs s_Web___init__) (defBody s_Web___init__) (defScope s_Web___init__) .none (.ref kD6) dc6 pm6 an6 cd6 ct6), sl6⟩) (c6 : PySem.W.codeIn K cd6 "Web.__init__" = true) (k6 : PySem.W.keepIn K (.ref f6) = true)
    {kt6_0 : Tok} (kd6_0 : PySem.W.nsIn K kD6 "most_places" = some (some (.int 60 kt6_0)))
    {kt6_1 : Tok} (kd6_1 : PySem.W.nsIn K kD6 "most_ties" = some (some (.int 200 kt6_1)))
    (a7 : PySem.W.findIn K (.ref Cl_Web) "put_back" = some (some (.ref f7))) (i7 : PySem.W.isFn K (.ref f7) = true) (l7 : K.lookup f7 = some ⟨oc7, od7, .func (PySem.W.fnOf "put_back" "Web.put_back" (defArgs s_Web_put_back) (defBody s_Web_put_back) (defScope s_Web_put_back) .none kV7 dc7 pm7 an7 cd7 ct7), sl7⟩) (c7 : PySem.W.codeIn K cd7 "Web.put_back" = true) (k7 : PySem.W.keepIn K (.ref f7) = true)
    (a8 : PySem.W.nsIn K mainGlobals "read_whole" = some (some (.ref f8))) (l8 : K.lookup f8 = some ⟨oc8, od8, .func (PySem.W.fnOf "read_whole" "read_whole" (defArgs s_read_whole) (defBody s_read_whole) (defScope s_read_whole) .none kV8 dc8 pm8 an8 cd8 ct8), sl8⟩) (c8 : PySem.W.codeIn K cd8 "read_whole" = true) (k8 : PySem.W.keepIn K (.ref f8) = true)
    (a9 : PySem.W.nsIn K mainGlobals "is_name" = some (some (.ref f9))) (l9 : K.lookup f9 = some ⟨oc9, od9, .func (PySem.W.fnOf "is_name" "is_name" (defArgs s_is_name) (defBody s_is_name) (defScope s_is_name) .none kV9 dc9 pm9 an9 cd9 ct9), sl9⟩) (c9 : PySem.W.codeIn K cd9 "is_name" = true) (k9 : PySem.W.keepIn K (.ref f9) = true)
    (a10 : PySem.W.nsIn K mainGlobals "read_tie" = some (some (.ref f10))) (l10 : K.lookup f10 = some ⟨oc10, od10, .func (PySem.W.fnOf "read_tie" "read_tie" (defArgs s_read_tie) (defBody s_read_tie) (defScope s_read_tie) .none kV10 dc10 pm10 an10 cd10 ct10), sl10⟩) (c10 : PySem.W.codeIn K cd10 "read_tie" = true) (k10 : PySem.W.keepIn K (.ref f10) = true)
    (a11 : PySem.W.nsIn K mainGlobals "read_rows" = some (some (.ref f11))) (l11 : K.lookup f11 = some ⟨oc11, od11, .func (PySem.W.fnOf "read_rows" "read_rows" (defArgs s_read_rows) (defBody s_read_rows) (defScope s_read_rows) .none kV11 dc11 pm11 an11 cd11 ct11), sl11⟩) (c11 : PySem.W.codeIn K cd11 "read_rows" = true) (k11 : PySem.W.keepIn K (.ref f11) = true)
    (a12 : PySem.W.nsIn K mainGlobals "rises" = some (some (.ref f12))) (l12 : K.lookup f12 = some ⟨oc12, od12, .func (PySem.W.fnOf "rises" "rises" (defArgs s_rises) (defBody s_rises) (defScope s_rises) .none kV12 dc12 pm12 an12 cd12 ct12), sl12⟩) (c12 : PySem.W.codeIn K cd12 "rises" = true) (k12 : PySem.W.keepIn K (.ref f12) = true)
    (a13 : PySem.W.nsIn K mainGlobals "next_number" = some (some (.ref f13))) (l13 : K.lookup f13 = some ⟨oc13, od13, .func (PySem.W.fnOf "next_number" "next_number" (defArgs s_next_number) (defBody s_next_number) (defScope s_next_number) .none kV13 dc13 pm13 an13 cd13 ct13), sl13⟩) (c13 : PySem.W.codeIn K cd13 "next_number" = true) (k13 : PySem.W.keepIn K (.ref f13) = true)
    (a14 : PySem.W.nsIn K mainGlobals "read_web" = some (some (.ref f14))) (l14 : K.lookup f14 = some ⟨oc14, od14, .func (PySem.W.fnOf "read_web" "read_web" (defArgs s_read_web) (defBody s_read_web) (defScope s_read_web) .none kV14 dc14 pm14 an14 cd14 ct14), sl14⟩) (c14 : PySem.W.codeIn K cd14 "read_web" = true) (k14 : PySem.W.keepIn K (.ref f14) = true)
    (a15 : PySem.W.findIn K (.ref Cl_Web) "undo" = some (some (.ref f15))) (i15 : PySem.W.isFn K (.ref f15) = true) (l15 : K.lookup f15 = some ⟨oc15, od15, .func (PySem.W.fnOf "undo" "Web.undo" (defArgs s_Web_undo) (defBody s_Web_undo) (defScope s_Web_undo) .none kV15 dc15 pm15 an15 cd15 ct15), sl15⟩) (c15 : PySem.W.codeIn K cd15 "Web.undo" = true) (k15 : PySem.W.keepIn K (.ref f15) = true)
    (a16 : PySem.W.findIn K (.ref Cl_Web) "_need_tie" = some (some (.ref f16))) (i16 : PySem.W.isFn K (.ref f16) = true) (l16 : K.lookup f16 = some ⟨oc16, od16, .func (PySem.W.fnOf "_need_tie" "Web._need_tie" (defArgs s_Web__need_tie) (defBody s_Web__need_tie) (defScope s_Web__need_tie) .none kV16 dc16 pm16 an16 cd16 ct16), sl16⟩) (c16 : PySem.W.codeIn K cd16 "Web._need_tie" = true) (k16 : PySem.W.keepIn K (.ref f16) = true)
    (a17 : PySem.W.findIn K (.ref Cl_Web) "cut" = some (some (.ref f17))) (i17 : PySem.W.isFn K (.ref f17) = true) (l17 : K.lookup f17 = some ⟨oc17, od17, .func (PySem.W.fnOf "cut" "Web.cut" (defArgs s_Web_cut) (defBody s_Web_cut) (defScope s_Web_cut) .none kV17 dc17 pm17 an17 cd17 ct17), sl17⟩) (c17 : PySem.W.codeIn K cd17 "Web.cut" = true) (k17 : PySem.W.keepIn K (.ref f17) = true)
    (a18 : PySem.W.nsIn K mainGlobals "_law_alike" = some (some (.ref f18))) (l18 : K.lookup f18 = some ⟨oc18, od18, .func (PySem.W.fnOf "_law_alike" "_law_alike" (defArgs s__law_alike) (defBody s__law_alike) (defScope s__law_alike) .none kV18 dc18 pm18 an18 cd18 ct18), sl18⟩) (c18 : PySem.W.codeIn K cd18 "_law_alike" = true) (k18 : PySem.W.keepIn K (.ref f18) = true)
    (a19 : PySem.W.findIn K (.ref Cl_Web) "places" = some (some (.ref f19))) (i19 : PySem.W.isFn K (.ref f19) = true) (l19 : K.lookup f19 = some ⟨oc19, od19, .func (PySem.W.fnOf "places" "Web.places" (defArgs s_Web_places) (defBody s_Web_places) (defScope s_Web_places) .none kV19 dc19 pm19 an19 cd19 ct19), sl19⟩) (c19 : PySem.W.codeIn K cd19 "Web.places" = true) (k19 : PySem.W.keepIn K (.ref f19) = true)
    (a20 : PySem.W.findIn K (.ref Cl_Web) "ties" = some (some (.ref f20))) (i20 : PySem.W.isFn K (.ref f20) = true) (l20 : K.lookup f20 = some ⟨oc20, od20, .func (PySem.W.fnOf "ties" "Web.ties" (defArgs s_Web_ties) (defBody s_Web_ties) (defScope s_Web_ties) .none kV20 dc20 pm20 an20 cd20 ct20), sl20⟩) (c20 : PySem.W.codeIn K cd20 "Web.ties" = true) (k20 : PySem.W.keepIn K (.ref f20) = true)
    (a21 : PySem.W.findIn K (.ref Cl_Web) "stand" = some (some (.ref f21))) (i21 : PySem.W.isFn K (.ref f21) = true) (l21 : K.lookup f21 = some ⟨oc21, od21, .func (PySem.W.fnOf "stand" "Web.stand" (defArgs s_Web_stand) (defBody s_Web_stand) (defScope s_Web_stand) .none kV21 dc21 pm21 an21 cd21 ct21), sl21⟩) (c21 : PySem.W.codeIn K cd21 "Web.stand" = true) (k21 : PySem.W.keepIn K (.ref f21) = true)
    (a22 : PySem.W.findIn K (.ref Cl_Web) "mark" = some (some (.ref f22))) (i22 : PySem.W.isFn K (.ref f22) = true) (l22 : K.lookup f22 = some ⟨oc22, od22, .func (PySem.W.fnOf "mark" "Web.mark" (defArgs s_Web_mark) (defBody s_Web_mark) (defScope s_Web_mark) .none kV22 dc22 pm22 an22 cd22 ct22), sl22⟩) (c22 : PySem.W.codeIn K cd22 "Web.mark" = true) (k22 : PySem.W.keepIn K (.ref f22) = true)
    (a23 : PySem.W.findIn K (.ref Cl_Web) "_need_place" = some (some (.ref f23))) (i23 : PySem.W.isFn K (.ref f23) = true) (l23 : K.lookup f23 = some ⟨oc23, od23, .func (PySem.W.fnOf "_need_place" "Web._need_place" (defArgs s_Web__need_place) (defBody s_Web__need_place) (defScope s_Web__need_place) .none kV23 dc23 pm23 an23 cd23 ct23), sl23⟩) (c23 : PySem.W.codeIn K cd23 "Web._need_place" = true) (k23 : PySem.W.keepIn K (.ref f23) = true)
    {X_Full : Addr} (xg_Full : PySem.W.nsIn K mainGlobals "Full" = some (some (.ref X_Full)))
    {nm_XFull q_XFull : Str} {N_XFull : Addr} {bs_XFull : List Value} {sn_XFull : List Str} {sb_XFull : List Value} {ab_XFull : Bool} {cl_XFull : Option Bool} {dd_XFull : Option Addr} {k0_XFull k1_XFull k2_XFull k3_XFull k5_XFull : Option Value} (lx_XFull : K.lookup X_Full = some (excClassObj nm_XFull q_XFull X_Full N_XFull bs_XFull [.type "LookupError", .type "Exception", .type "BaseException", .type "object"] true sn_XFull sb_XFull ab_XFull cl_XFull dd_XFull k0_XFull k1_XFull k2_XFull k3_XFull k5_XFull "LookupError.__new__"))
    (sa_XFull : PySem.W.findIn K (.ref X_Full) "__setattr__" = some (some (.builtin "object.__setattr__"))) (xs_Full : PySem.W.subIn K (.ref X_Full) (.type "BaseException") = some true) (xt_Full : PySem.W.typeIn K (.ref X_Full) = some (.type "type")) (xk_Full : PySem.W.keepIn K (.ref X_Full) = true) (no_XFull : PySem.W.findIn K (.ref X_Full) "most" = some none) (vi_LookupError : PySem.W.findCls K (.type "LookupError") (.type "type") "__init__" = some (.val (.builtin "LookupError.__init__")))
    (a24 : PySem.W.findIn K (.ref X_Full) "__init__" = some (some (.ref f24))) (i24 : PySem.W.isFn K (.ref f24) = true) (l24 : K.lookup f24 = some ⟨oc24, od24, .func (PySem.W.fnOf "__init__" "Full.__init__" (defArgs s_Full___init__) (defBody s_Full___init__) (defScope s_Full___init__) .none kV24 dc24 pm24 an24 cd24 ct24), sl24⟩) (c24 : PySem.W.codeIn K cd24 "Full.__init__" = true) (k24 : PySem.W.keepIn K (.ref f24) = true)
    (a25 : PySem.W.findIn K (.ref Cl_Web) "tie" = some (some (.ref f25))) (i25 : PySem.W.isFn K (.ref f25) = true) (l25 : K.lookup f25 = some ⟨oc25, od25, .func (PySem.W.fnOf "tie" "Web.tie" (defArgs s_Web_tie) (defBody s_Web_tie) (defScope s_Web_tie) .none kV25 dc25 pm25 an25 cd25 ct25), sl25⟩) (c25 : PySem.W.codeIn K cd25 "Web.tie" = true) (k25 : PySem.W.keepIn K (.ref f25) = true)
    (a26 : PySem.W.findIn K (.ref Cl_Web) "__len__" = some (some (.ref f26))) (i26 : PySem.W.isFn K (.ref f26) = true) (l26 : K.lookup f26 = some ⟨oc26, od26, .func (PySem.W.fnOf "__len__" "Web.__len__" (defArgs s_Web___len__) (defBody s_Web___len__) (defScope s_Web___len__) .none kV26 dc26 pm26 an26 cd26 ct26), sl26⟩) (c26 : PySem.W.codeIn K cd26 "Web.__len__" = true) (k26 : PySem.W.keepIn K (.ref f26) = true)
    (a27 : PySem.W.findIn K (.ref Cl_Web) "place" = some (some (.ref f27))) (i27 : PySem.W.isFn K (.ref f27) = true) (l27 : K.lookup f27 = some ⟨oc27, od27, .func (PySem.W.fnOf "place" "Web.place" (defArgs s_Web_place) (defBody s_Web_place) (defScope s_Web_place) .none kV27 dc27 pm27 an27 cd27 ct27), sl27⟩) (c27 : PySem.W.codeIn K cd27 "Web.place" = true) (k27 : PySem.W.keepIn K (.ref f27) = true)
    (a28 : PySem.W.findIn K (.ref Cl_Web) "ties_at" = some (some (.ref f28))) (i28 : PySem.W.isFn K (.ref f28) = true) (l28 : K.lookup f28 = some ⟨oc28, od28, .func (PySem.W.fnOf "ties_at" "Web.ties_at" (defArgs s_Web_ties_at) (defBody s_Web_ties_at) (defScope s_Web_ties_at) .none kV28 dc28 pm28 an28 cd28 ct28), sl28⟩) (c28 : PySem.W.codeIn K cd28 "Web.ties_at" = true) (k28 : PySem.W.keepIn K (.ref f28) = true)
    (a29 : PySem.W.findIn K (.ref Cl_Web) "drop" = some (some (.ref f29))) (i29 : PySem.W.isFn K (.ref f29) = true) (l29 : K.lookup f29 = some ⟨oc29, od29, .func (PySem.W.fnOf "drop" "Web.drop" (defArgs s_Web_drop) (defBody s_Web_drop) (defScope s_Web_drop) .none kV29 dc29 pm29 an29 cd29 ct29), sl29⟩) (c29 : PySem.W.codeIn K cd29 "Web.drop" = true) (k29 : PySem.W.keepIn K (.ref f29) = true)
    (a30 : PySem.W.nsIn K mainGlobals "_law_refusal" = some (some (.ref f30))) (l30 : K.lookup f30 = some ⟨oc30, od30, .func (PySem.W.fnOf "_law_refusal" "_law_refusal" (defArgs s__law_refusal) (defBody s__law_refusal) (defScope s__law_refusal) .none kV30 dc30 pm30 an30 cd30 ct30), sl30⟩) (c30 : PySem.W.codeIn K cd30 "_law_refusal" = true) (k30 : PySem.W.keepIn K (.ref f30) = true)
    (a31 : PySem.W.nsIn K mainGlobals "_law_filled" = some (some (.ref f31))) (l31 : K.lookup f31 = some ⟨oc31, od31, .func (PySem.W.fnOf "_law_filled" "_law_filled" (defArgs s__law_filled) (defBody s__law_filled) (defScope s__law_filled) .none kV31 dc31 pm31 an31 cd31 ct31), sl31⟩) (c31 : PySem.W.codeIn K cd31 "_law_filled" = true) (k31 : PySem.W.keepIn K (.ref f31) = true)
    (a32 : PySem.W.nsIn K mainGlobals "web_text" = some (some (.ref f32))) (l32 : K.lookup f32 = some ⟨oc32, od32, .func (PySem.W.fnOf "web_text" "web_text" (defArgs s_web_text) (defBody s_web_text) (defScope s_web_text) .none kV32 dc32 pm32 an32 cd32 ct32), sl32⟩) (c32 : PySem.W.codeIn K cd32 "web_text" = true) (k32 : PySem.W.keepIn K (.ref f32) = true)
    (a33 : PySem.W.nsIn K mainGlobals "_law_as_a_web" = some (some (.ref f33))) (l33 : K.lookup f33 = some ⟨oc33, od33, .func (PySem.W.fnOf "_law_as_a_web" "_law_as_a_web" (defArgs s__law_as_a_web) (defBody s__law_as_a_web) (defScope s__law_as_a_web) .none kV33 dc33 pm33 an33 cd33 ct33), sl33⟩) (c33 : PySem.W.codeIn K cd33 "_law_as_a_web" = true) (k33 : PySem.W.keepIn K (.ref f33) = true)
    (a34 : PySem.W.nsIn K mainGlobals "_law_more_right" = some (some (.ref f34))) (l34 : K.lookup f34 = some ⟨oc34, od34, .func (PySem.W.fnOf "_law_more_right" "_law_more_right" (defArgs s__law_more_right) (defBody s__law_more_right) (defScope s__law_more_right) .none kV34 dc34 pm34 an34 cd34 ct34), sl34⟩) (c34 : PySem.W.codeIn K cd34 "_law_more_right" = true) (k34 : PySem.W.keepIn K (.ref f34) = true)
    (a35 : PySem.W.nsIn K mainGlobals "_law_no_mark" = some (some (.ref f35))) (l35 : K.lookup f35 = some ⟨oc35, od35, .func (PySem.W.fnOf "_law_no_mark" "_law_no_mark" (defArgs s__law_no_mark) (defBody s__law_no_mark) (defScope s__law_no_mark) .none kV35 dc35 pm35 an35 cd35 ct35), sl35⟩) (c35 : PySem.W.codeIn K cd35 "_law_no_mark" = true) (k35 : PySem.W.keepIn K (.ref f35) = true)
    (a36 : PySem.W.findIn K (.ref Cl_Web) "ends_of" = some (some (.ref f36))) (i36 : PySem.W.isFn K (.ref f36) = true) (l36 : K.lookup f36 = some ⟨oc36, od36, .func (PySem.W.fnOf "ends_of" "Web.ends_of" (defArgs s_Web_ends_of) (defBody s_Web_ends_of) (defScope s_Web_ends_of) .none kV36 dc36 pm36 an36 cd36 ct36), sl36⟩) (c36 : PySem.W.codeIn K cd36 "Web.ends_of" = true) (k36 : PySem.W.keepIn K (.ref f36) = true)
    (a37 : PySem.W.nsIn K mainGlobals "_law_ends_right" = some (some (.ref f37))) (l37 : K.lookup f37 = some ⟨oc37, od37, .func (PySem.W.fnOf "_law_ends_right" "_law_ends_right" (defArgs s__law_ends_right) (defBody s__law_ends_right) (defScope s__law_ends_right) .none kV37 dc37 pm37 an37 cd37 ct37), sl37⟩) (c37 : PySem.W.codeIn K cd37 "_law_ends_right" = true) (k37 : PySem.W.keepIn K (.ref f37) = true)
    (a38 : PySem.W.nsIn K mainGlobals "law" = some (some (.ref f38))) (l38 : K.lookup f38 = some ⟨oc38, od38, .func (PySem.W.fnOf "law" "law" (defArgs s_law) (defBody s_law) (defScope s_law) .none kV38 dc38 pm38 an38 cd38 ct38), sl38⟩) (c38 : PySem.W.codeIn K cd38 "law" = true) (k38 : PySem.W.keepIn K (.ref f38) = true)
    {X_NoMark : Addr} (xg_NoMark : PySem.W.nsIn K mainGlobals "NoMark" = some (some (.ref X_NoMark)))
    {X_NoName : Addr} (xg_NoName : PySem.W.nsIn K mainGlobals "NoName" = some (some (.ref X_NoName)))
    {X_NoPlace : Addr} (xg_NoPlace : PySem.W.nsIn K mainGlobals "NoPlace" = some (some (.ref X_NoPlace)))
    {X_NoTie : Addr} (xg_NoTie : PySem.W.nsIn K mainGlobals "NoTie" = some (some (.ref X_NoTie)))
    {X_Tied : Addr} (xg_Tied : PySem.W.nsIn K mainGlobals "Tied" = some (some (.ref X_Tied)))
    (xq_NoMark : PySem.W.excIn K X_NoMark [.type "LookupError", .type "Exception", .type "BaseException", .type "object"] "LookupError.__new__" = true) (xk_NoMark : PySem.W.keepIn K (.ref X_NoMark) = true) (xs_NoMark : PySem.W.subIn K (.ref X_NoMark) (.type "BaseException") = some true) (xt_NoMark : PySem.W.typeIn K (.ref X_NoMark) = some (.type "type"))
    (xq_NoName : PySem.W.excIn K X_NoName [.type "ValueError", .type "Exception", .type "BaseException", .type "object"] "ValueError.__new__" = true) (xk_NoName : PySem.W.keepIn K (.ref X_NoName) = true) (xs_NoName : PySem.W.subIn K (.ref X_NoName) (.type "BaseException") = some true) (xt_NoName : PySem.W.typeIn K (.ref X_NoName) = some (.type "type"))
    (xq_NoPlace : PySem.W.excIn K X_NoPlace [.type "KeyError", .type "LookupError", .type "Exception", .type "BaseException", .type "object"] "LookupError.__new__" = true) (xk_NoPlace : PySem.W.keepIn K (.ref X_NoPlace) = true) (xs_NoPlace : PySem.W.subIn K (.ref X_NoPlace) (.type "BaseException") = some true) (xt_NoPlace : PySem.W.typeIn K (.ref X_NoPlace) = some (.type "type"))
    (xq_NoTie : PySem.W.excIn K X_NoTie [.type "KeyError", .type "LookupError", .type "Exception", .type "BaseException", .type "object"] "LookupError.__new__" = true) (xk_NoTie : PySem.W.keepIn K (.ref X_NoTie) = true) (xs_NoTie : PySem.W.subIn K (.ref X_NoTie) (.type "BaseException") = some true) (xt_NoTie : PySem.W.typeIn K (.ref X_NoTie) = some (.type "type"))
    (xq_Tied : PySem.W.excIn K X_Tied [.type "RuntimeError", .type "Exception", .type "BaseException", .type "object"] "RuntimeError.__new__" = true) (xk_Tied : PySem.W.keepIn K (.ref X_Tied) = true) (xs_Tied : PySem.W.subIn K (.ref X_Tied) (.type "BaseException") = some true) (xt_Tied : PySem.W.typeIn K (.ref X_Tied) = some (.type "type"))
    (tb_Full : PySem.W.subIn K (.ref X_Full) (.type "BaseException") = some true) (ti_Full : PySem.W.isClsIn K X_Full = true) (tt_Full : PySem.W.typeIn K (.ref X_Full) = some (.type "type")) (ty_Full : PySem.W.subIn K (.ref X_Full) (.ref X_Full) = some true)
    (tn_Full_NoMark : PySem.W.subIn K (.ref X_NoMark) (.ref X_Full) = some false)
    (tn_Full_NoName : PySem.W.subIn K (.ref X_NoName) (.ref X_Full) = some false)
    (tn_Full_NoPlace : PySem.W.subIn K (.ref X_NoPlace) (.ref X_Full) = some false)
    (tn_Full_NoTie : PySem.W.subIn K (.ref X_NoTie) (.ref X_Full) = some false)
    (tn_Full_Tied : PySem.W.subIn K (.ref X_Tied) (.ref X_Full) = some false)
    (tb_NoMark : PySem.W.subIn K (.ref X_NoMark) (.type "BaseException") = some true) (ti_NoMark : PySem.W.isClsIn K X_NoMark = true) (tt_NoMark : PySem.W.typeIn K (.ref X_NoMark) = some (.type "type")) (ty_NoMark : PySem.W.subIn K (.ref X_NoMark) (.ref X_NoMark) = some true)
    (tn_NoMark_Full : PySem.W.subIn K (.ref X_Full) (.ref X_NoMark) = some false)
    (tn_NoMark_NoName : PySem.W.subIn K (.ref X_NoName) (.ref X_NoMark) = some false)
    (tn_NoMark_NoPlace : PySem.W.subIn K (.ref X_NoPlace) (.ref X_NoMark) = some false)
    (tn_NoMark_NoTie : PySem.W.subIn K (.ref X_NoTie) (.ref X_NoMark) = some false)
    (tn_NoMark_Tied : PySem.W.subIn K (.ref X_Tied) (.ref X_NoMark) = some false)
    (tb_NoPlace : PySem.W.subIn K (.ref X_NoPlace) (.type "BaseException") = some true) (ti_NoPlace : PySem.W.isClsIn K X_NoPlace = true) (tt_NoPlace : PySem.W.typeIn K (.ref X_NoPlace) = some (.type "type")) (ty_NoPlace : PySem.W.subIn K (.ref X_NoPlace) (.ref X_NoPlace) = some true)
    (tn_NoPlace_Full : PySem.W.subIn K (.ref X_Full) (.ref X_NoPlace) = some false)
    (tn_NoPlace_NoMark : PySem.W.subIn K (.ref X_NoMark) (.ref X_NoPlace) = some false)
    (tn_NoPlace_NoName : PySem.W.subIn K (.ref X_NoName) (.ref X_NoPlace) = some false)
    (tn_NoPlace_NoTie : PySem.W.subIn K (.ref X_NoTie) (.ref X_NoPlace) = some false)
    (tn_NoPlace_Tied : PySem.W.subIn K (.ref X_Tied) (.ref X_NoPlace) = some false)
    (tb_Tied : PySem.W.subIn K (.ref X_Tied) (.type "BaseException") = some true) (ti_Tied : PySem.W.isClsIn K X_Tied = true) (tt_Tied : PySem.W.typeIn K (.ref X_Tied) = some (.type "type")) (ty_Tied : PySem.W.subIn K (.ref X_Tied) (.ref X_Tied) = some true)
    (tn_Tied_Full : PySem.W.subIn K (.ref X_Full) (.ref X_Tied) = some false)
    (tn_Tied_NoMark : PySem.W.subIn K (.ref X_NoMark) (.ref X_Tied) = some false)
    (tn_Tied_NoName : PySem.W.subIn K (.ref X_NoName) (.ref X_Tied) = some false)
    (tn_Tied_NoPlace : PySem.W.subIn K (.ref X_NoPlace) (.ref X_Tied) = some false)
    (tn_Tied_NoTie : PySem.W.subIn K (.ref X_NoTie) (.ref X_Tied) = some false)
    (eg_Full : PySem.W.findIn K (.ref X_Full) "__getattribute__" = some (some (.builtin "BaseException.__getattribute__"))) (ek_Full : PySem.W.findIn K (.ref X_Full) "__getattr__" = some none) (ed_Full : PySem.W.hasDictIn K X_Full = true)
    (zz_LookupError : PySem.W.nsIn K mainGlobals "LookupError" = some none)
    (zz_abs : PySem.W.nsIn K mainGlobals "abs" = some none)
    (zz_all : PySem.W.nsIn K mainGlobals "all" = some none)
    (zz_bool : PySem.W.nsIn K mainGlobals "bool" = some none)
    (zz_int : PySem.W.nsIn K mainGlobals "int" = some none)
    (zz_isinstance : PySem.W.nsIn K mainGlobals "isinstance" = some none)
    (zz_len : PySem.W.nsIn K mainGlobals "len" = some none)
    (zz_list : PySem.W.nsIn K mainGlobals "list" = some none)
    (zz_max : PySem.W.nsIn K mainGlobals "max" = some none)
    (zz_min : PySem.W.nsIn K mainGlobals "min" = some none)
    (zz_range : PySem.W.nsIn K mainGlobals "range" = some none)
    (zz_set : PySem.W.nsIn K mainGlobals "set" = some none)
    (zz_sorted : PySem.W.nsIn K mainGlobals "sorted" = some none)
    (zz_str : PySem.W.nsIn K mainGlobals "str" = some none)
    (zz_tuple : PySem.W.nsIn K mainGlobals "tuple" = some none)
    {t_FIGURES : Tok} (g_FIGURES : PySem.W.nsIn K mainGlobals "FIGURES" = some (some (.str "0123456789" t_FIGURES)))
    {t_LONGEST_NAME : Tok} (g_LONGEST_NAME : PySem.W.nsIn K mainGlobals "LONGEST_NAME" = some (some (.int 8 t_LONGEST_NAME)))
    {t_MOST_FIGURES : Tok} (g_MOST_FIGURES : PySem.W.nsIn K mainGlobals "MOST_FIGURES" = some (some (.int 50 t_MOST_FIGURES)))
    {t_MOST_PLACES : Tok} (g_MOST_PLACES : PySem.W.nsIn K mainGlobals "MOST_PLACES" = some (some (.int 60 t_MOST_PLACES)))
    {t_MOST_TIES : Tok} (g_MOST_TIES : PySem.W.nsIn K mainGlobals "MOST_TIES" = some (some (.int 200 t_MOST_TIES)))
    {t_SMALL_LETTERS : Tok} (g_SMALL_LETTERS : PySem.W.nsIn K mainGlobals "SMALL_LETTERS" = some (some (.str "abcdefghijklmnopqrstuvwxyz" t_SMALL_LETTERS)))
    (hlaw : ∀ ns : List Int, ns.length ≤ 63 → ∃ ms, sem_law [.ro (ns.map D.int)] [] = .ok (.bl true) ms) :
    ∃ fd : FuncData, (∀ (s : Shared) (v : Value), BindsTo s fd ⟨[v], []⟩ [("script", v)]) ∧ ∀ base : Heap, K.In base → base.Ns mainGlobals mg → FnOk l.prog w K mg base CX0 9 fa fd ["script"] (spL K) := by
  have e := hfa.symm.trans (PySem.W.mg_of X G a38)
  cases e
  have qc_Web : ∀ f, f ∈ (["_most_places", "_most_ties", "_places", "_ties", "_next_place", "_next_tie", "_marks"] : List Str) → NoAttr K Cl_Web f := by
    intro f hf
    simp only [List.mem_cons, List.not_mem_nil, or_false] at hf
    rcases hf with rfl | rfl | rfl | rfl | rfl | rfl | rfl
    · exact nf_Web__most_places
    · exact nf_Web__most_ties
    · exact nf_Web__places
    · exact nf_Web__ties
    · exact nf_Web__next_place
    · exact nf_Web__next_tie
    · exact nf_Web__marks
  let Q_Web : KC K mg "Web" ["_most_places", "_most_ties", "_places", "_ties", "_next_place", "_next_tie", "_marks"] := ⟨Cl_Web, ac_Web, PySem.W.mg_of X G ac_Web, ⟨pg_Web, hd_Web, po_Web, sa_Web⟩, qc_Web⟩
  have tl_Full : ∀ c', c' ∈ L_exn → ∃ C', PySem.W.nsIn K mainGlobals c' = some (some (.ref C')) ∧ PySem.W.exmAny K (.ref C') [.ref X_Full] = some (decide (c' ∈ (["Full"] : List Str))) := by
    intro c' hc
    simp only [L_exn, List.mem_cons, List.not_mem_nil, or_false] at hc
    rcases hc with rfl | rfl | rfl | rfl | rfl | rfl
    · exact ⟨_, xg_Full, by simp only [PySem.W.exmAny, exm_mk tb_Full ti_Full tt_Full ty_Full]; decide +kernel⟩
    · exact ⟨_, xg_NoMark, by simp only [PySem.W.exmAny, exm_mk tb_Full ti_Full tt_Full tn_Full_NoMark]; decide +kernel⟩
    · exact ⟨_, xg_NoName, by simp only [PySem.W.exmAny, exm_mk tb_Full ti_Full tt_Full tn_Full_NoName]; decide +kernel⟩
    · exact ⟨_, xg_NoPlace, by simp only [PySem.W.exmAny, exm_mk tb_Full ti_Full tt_Full tn_Full_NoPlace]; decide +kernel⟩
    · exact ⟨_, xg_NoTie, by simp only [PySem.W.exmAny, exm_mk tb_Full ti_Full tt_Full tn_Full_NoTie]; decide +kernel⟩
    · exact ⟨_, xg_Tied, by simp only [PySem.W.exmAny, exm_mk tb_Full ti_Full tt_Full tn_Full_Tied]; decide +kernel⟩
  have tl_NoPlace : ∀ c', c' ∈ L_exn → ∃ C', PySem.W.nsIn K mainGlobals c' = some (some (.ref C')) ∧ PySem.W.exmAny K (.ref C') [.ref X_NoPlace] = some (decide (c' ∈ (["NoPlace"] : List Str))) := by
    intro c' hc
    simp only [L_exn, List.mem_cons, List.not_mem_nil, or_false] at hc
    rcases hc with rfl | rfl | rfl | rfl | rfl | rfl
    · exact ⟨_, xg_Full, by simp only [PySem.W.exmAny, exm_mk tb_NoPlace ti_NoPlace tt_NoPlace tn_NoPlace_Full]; decide +kernel⟩
    · exact ⟨_, xg_NoMark, by simp only [PySem.W.exmAny, exm_mk tb_NoPlace ti_NoPlace tt_NoPlace tn_NoPlace_NoMark]; decide +kernel⟩
    · exact ⟨_, xg_NoName, by simp only [PySem.W.exmAny, exm_mk tb_NoPlace ti_NoPlace tt_NoPlace tn_NoPlace_NoName]; decide +kernel⟩
    · exact ⟨_, xg_NoPlace, by simp only [PySem.W.exmAny, exm_mk tb_NoPlace ti_NoPlace tt_NoPlace ty_NoPlace]; decide +kernel⟩
    · exact ⟨_, xg_NoTie, by simp only [PySem.W.exmAny, exm_mk tb_NoPlace ti_NoPlace tt_NoPlace tn_NoPlace_NoTie]; decide +kernel⟩
    · exact ⟨_, xg_Tied, by simp only [PySem.W.exmAny, exm_mk tb_NoPlace ti_NoPlace tt_NoPlace tn_NoPlace_Tied]; decide +kernel⟩
  have tl_Tied : ∀ c', c' ∈ L_exn → ∃ C', PySem.W.nsIn K mainGlobals c' = some (some (.ref C')) ∧ PySem.W.exmAny K (.ref C') [.ref X_Tied] = some (decide (c' ∈ (["Tied"] : List Str))) := by
    intro c' hc
    simp only [L_exn, List.mem_cons, List.not_mem_nil, or_false] at hc
    rcases hc with rfl | rfl | rfl | rfl | rfl | rfl
    · exact ⟨_, xg_Full, by simp only [PySem.W.exmAny, exm_mk tb_Tied ti_Tied tt_Tied tn_Tied_Full]; decide +kernel⟩
    · exact ⟨_, xg_NoMark, by simp only [PySem.W.exmAny, exm_mk tb_Tied ti_Tied tt_Tied tn_Tied_NoMark]; decide +kernel⟩
    · exact ⟨_, xg_NoName, by simp only [PySem.W.exmAny, exm_mk tb_Tied ti_Tied tt_Tied tn_Tied_NoName]; decide +kernel⟩
    · exact ⟨_, xg_NoPlace, by simp only [PySem.W.exmAny, exm_mk tb_Tied ti_Tied tt_Tied tn_Tied_NoPlace]; decide +kernel⟩
    · exact ⟨_, xg_NoTie, by simp only [PySem.W.exmAny, exm_mk tb_Tied ti_Tied tt_Tied tn_Tied_NoTie]; decide +kernel⟩
    · exact ⟨_, xg_Tied, by simp only [PySem.W.exmAny, exm_mk tb_Tied ti_Tied tt_Tied ty_Tied]; decide +kernel⟩
  have tl_NoMark : ∀ c', c' ∈ L_NoMark → ∃ C', PySem.W.nsIn K mainGlobals c' = some (some (.ref C')) ∧ PySem.W.exmOne K (.ref C') (.ref X_NoMark) = some false := by
    intro c' hc
    simp only [L_NoMark, List.mem_cons, List.not_mem_nil, or_false] at hc
    rcases hc with rfl | rfl | rfl | rfl
    · exact ⟨_, xg_NoName, exm_mk tb_NoMark ti_NoMark tt_NoMark tn_NoMark_NoName⟩
    · exact ⟨_, xg_NoPlace, exm_mk tb_NoMark ti_NoMark tt_NoMark tn_NoMark_NoPlace⟩
    · exact ⟨_, xg_NoTie, exm_mk tb_NoMark ti_NoMark tt_NoMark tn_NoMark_NoTie⟩
    · exact ⟨_, xg_Tied, exm_mk tb_NoMark ti_NoMark tt_NoMark tn_NoMark_Tied⟩
  have T : Txt K mg := ⟨⟨Q_Web⟩, ⟨XC.own PySem.F.excBase_LookupError xq_NoMark xg_NoMark (PySem.W.mg_of X G xg_NoMark) xk_NoMark xs_NoMark xt_NoMark⟩, ⟨XC.own PySem.F.excBase_ValueError xq_NoName xg_NoName (PySem.W.mg_of X G xg_NoName) xk_NoName xs_NoName xt_NoName⟩, ⟨XC.key xq_NoPlace xg_NoPlace (PySem.W.mg_of X G xg_NoPlace) xk_NoPlace xs_NoPlace xt_NoPlace⟩, ⟨XC.key xq_NoTie xg_NoTie (PySem.W.mg_of X G xg_NoTie) xk_NoTie xs_NoTie xt_NoTie⟩, ⟨XC.own PySem.F.excBase_RuntimeError xq_Tied xg_Tied (PySem.W.mg_of X G xg_Tied) xk_Tied xs_Tied xt_Tied⟩, vi_LookupError, ⟨fun c' hc => by
    simp only [List.mem_cons, List.not_mem_nil, or_false] at hc
    rcases hc with rfl
    · exact ⟨_, xg_Full, ⟨eg_Full, ek_Full, xs_Full, ed_Full⟩, no_XFull⟩⟩, ⟨⟨[.ref X_Full], (by simp only [List.map_cons, List.map_nil, PySem.W.mg_of X G xg_Full]), tl_Full, (by rw [sizeLine_eq]; simp)⟩⟩, ⟨⟨[.ref X_NoPlace], (by simp only [List.map_cons, List.map_nil, PySem.W.mg_of X G xg_NoPlace]), tl_NoPlace, (by rw [sizeLine_eq]; simp)⟩⟩, ⟨⟨[.ref X_Tied], (by simp only [List.map_cons, List.map_nil, PySem.W.mg_of X G xg_Tied]), tl_Tied, (by rw [sizeLine_eq]; simp)⟩⟩, ⟨⟨X_NoMark, xg_NoMark, PySem.W.mg_of X G xg_NoMark, exm_mk tb_NoMark ti_NoMark tt_NoMark ty_NoMark, tl_NoMark⟩⟩, PySem.W.mg_none_of X G zz_LookupError, PySem.W.mg_none_of X G zz_abs, PySem.W.mg_none_of X G zz_all, PySem.W.mg_none_of X G zz_bool, PySem.W.mg_none_of X G zz_int, PySem.W.mg_none_of X G zz_isinstance, PySem.W.mg_none_of X G zz_len, PySem.W.mg_none_of X G zz_list, PySem.W.mg_none_of X G zz_max, PySem.W.mg_none_of X G zz_min, PySem.W.mg_none_of X G zz_range, PySem.W.mg_none_of X G zz_set, PySem.W.mg_none_of X G zz_sorted, PySem.W.mg_none_of X G zz_str, PySem.W.mg_none_of X G zz_tuple, fun {Y} {_} {_} hg hm _ => d_glob (v := V.str "0123456789") hg ((congrFun hm _).trans (PySem.W.mg_of X G g_FIGURES)) ⟨_, rfl⟩ (fun _ _ => rfl), fun {Y} {_} {_} hg hm _ => d_glob (v := V.int 8) hg ((congrFun hm _).trans (PySem.W.mg_of X G g_LONGEST_NAME)) ⟨_, rfl⟩ (fun _ _ => rfl), fun {Y} {_} {_} hg hm _ => d_glob (v := V.int 50) hg ((congrFun hm _).trans (PySem.W.mg_of X G g_MOST_FIGURES)) ⟨_, rfl⟩ (fun _ _ => rfl), fun {Y} {_} {_} hg hm _ => d_glob (v := V.int 60) hg ((congrFun hm _).trans (PySem.W.mg_of X G g_MOST_PLACES)) ⟨_, rfl⟩ (fun _ _ => rfl), fun {Y} {_} {_} hg hm _ => d_glob (v := V.int 200) hg ((congrFun hm _).trans (PySem.W.mg_of X G g_MOST_TIES)) ⟨_, rfl⟩ (fun _ _ => rfl), fun {Y} {_} {_} hg hm _ => d_glob (v := V.str "abcdefghijklmnopqrstuvwxyz") hg ((congrFun hm _).trans (PySem.W.mg_of X G g_SMALL_LETTERS)) ⟨_, rfl⟩ (fun _ _ => rfl)⟩
  have F0 := fun_mk (st := s__law_bag) l0 c0 k0
  have b0 := F0.binds (ps := ["script"]) fun _ _ _ _ _ _ us hl => match us, hl with | [_], _ => rfl
  have F1 := fun_mk (st := s__law_stirred) l1 c1 k1
  have b1 := F1.binds (ps := ["bag", "many"]) fun _ _ _ _ _ _ us hl => match us, hl with | [_, _], _ => rfl
  have F2 := fun_mk (st := s__law_draw) l2 c2 k2
  have b2 := F2.binds (ps := ["bag", "many"]) fun _ _ _ _ _ _ us hl => match us, hl with | [_, _], _ => rfl
  have F3 := fun_mk (st := s__law_name) l3 c3 k3
  have b3 := F3.binds (ps := ["bag"]) fun _ _ _ _ _ _ us hl => match us, hl with | [_], _ => rfl
  have F4 := fun_mk (st := s__law_web) l4 c4 k4
  have b4 := F4.binds (ps := ["bag", "places", "ties", "far"]) fun _ _ _ _ _ _ us hl => match us, hl with | [_, _, _, _], _ => rfl
  have F5 := fun_mk (st := s__law_web_written) l5 c5 k5
  have b5 := F5.binds (ps := ["places", "ties"]) fun _ _ _ _ _ _ us hl => match us, hl with | [_, _], _ => rfl
  have F6 := fun_mk (st := s_Web___init__) l6 c6 k6
  have FD6 : FunD K "__init__" "Web.__init__" (defArgs s_Web___init__) (defBody s_Web___init__) (defScope s_Web___init__) [] [("most_places", V.int 60), ("most_ties", V.int 200)] f6 _ := ⟨⟨_, _, _, _, _, _, _, _, _, _, rfl, l6, c6, .inl ⟨rfl, rfl⟩, .inr ⟨kD6, rfl, fun q hq => by
    simp only [List.mem_cons, List.not_mem_nil, or_false] at hq
    rcases hq with rfl | rfl
    · exact ⟨_, kd6_0, _, rfl⟩
    · exact ⟨_, kd6_1, _, rfl⟩⟩⟩, k6⟩
  obtain ⟨ds6, dv6, b6⟩ := FD6.binds0 (ps := ["self", "most_places", "most_ties"]) 1 (by simp) rfl fun D doc pm an cdv ct us ks h1 h2 => match us, ks, h1, h2 with | [_], [_, _], _, _ => ⟨_, _, _, _, _, _, rfl, rfl, _, _, _, _, _, _, rfl, rfl, rfl⟩
  have F7 := fun_mk (st := s_Web_put_back) l7 c7 k7
  have b7 := F7.binds (ps := ["self", "stand"]) fun _ _ _ _ _ _ us hl => match us, hl with | [_, _], _ => rfl
  have F8 := fun_mk (st := s_read_whole) l8 c8 k8
  have b8 := F8.binds (ps := ["text"]) fun _ _ _ _ _ _ us hl => match us, hl with | [_], _ => rfl
  have F9 := fun_mk (st := s_is_name) l9 c9 k9
  have b9 := F9.binds (ps := ["text"]) fun _ _ _ _ _ _ us hl => match us, hl with | [_], _ => rfl
  have F10 := fun_mk (st := s_read_tie) l10 c10 k10
  have b10 := F10.binds (ps := ["words"]) fun _ _ _ _ _ _ us hl => match us, hl with | [_], _ => rfl
  have F11 := fun_mk (st := s_read_rows) l11 c11 k11
  have b11 := F11.binds (ps := ["text"]) fun _ _ _ _ _ _ us hl => match us, hl with | [_], _ => rfl
  have F12 := fun_mk (st := s_rises) l12 c12 k12
  have b12 := F12.binds (ps := ["numbers"]) fun _ _ _ _ _ _ us hl => match us, hl with | [_], _ => rfl
  have F13 := fun_mk (st := s_next_number) l13 c13 k13
  have b13 := F13.binds (ps := ["numbers"]) fun _ _ _ _ _ _ us hl => match us, hl with | [_], _ => rfl
  have F14 := fun_mk (st := s_read_web) l14 c14 k14
  have b14 := F14.binds (ps := ["text"]) fun _ _ _ _ _ _ us hl => match us, hl with | [_], _ => rfl
  have F15 := fun_mk (st := s_Web_undo) l15 c15 k15
  have b15 := F15.binds (ps := ["self", "mark"]) fun _ _ _ _ _ _ us hl => match us, hl with | [_, _], _ => rfl
  have F16 := fun_mk (st := s_Web__need_tie) l16 c16 k16
  have b16 := F16.binds (ps := ["self", "tie"]) fun _ _ _ _ _ _ us hl => match us, hl with | [_, _], _ => rfl
  have F17 := fun_mk (st := s_Web_cut) l17 c17 k17
  have b17 := F17.binds (ps := ["self", "tie"]) fun _ _ _ _ _ _ us hl => match us, hl with | [_, _], _ => rfl
  have F18 := fun_mk (st := s__law_alike) l18 c18 k18
  have b18 := F18.binds (ps := ["found", "due"]) fun _ _ _ _ _ _ us hl => match us, hl with | [_, _], _ => rfl
  have F19 := fun_mk (st := s_Web_places) l19 c19 k19
  have b19 := F19.binds (ps := ["self"]) fun _ _ _ _ _ _ us hl => match us, hl with | [_], _ => rfl
  have F20 := fun_mk (st := s_Web_ties) l20 c20 k20
  have b20 := F20.binds (ps := ["self"]) fun _ _ _ _ _ _ us hl => match us, hl with | [_], _ => rfl
  have F21 := fun_mk (st := s_Web_stand) l21 c21 k21
  have b21 := F21.binds (ps := ["self"]) fun _ _ _ _ _ _ us hl => match us, hl with | [_], _ => rfl
  have F22 := fun_mk (st := s_Web_mark) l22 c22 k22
  have b22 := F22.binds (ps := ["self"]) fun _ _ _ _ _ _ us hl => match us, hl with | [_], _ => rfl
  have F23 := fun_mk (st := s_Web__need_place) l23 c23 k23
  have b23 := F23.binds (ps := ["self", "place"]) fun _ _ _ _ _ _ us hl => match us, hl with | [_, _], _ => rfl
  have F24 := fun_mk (st := s_Full___init__) l24 c24 k24
  have b24 := F24.binds (ps := ["self", "most"]) fun _ _ _ _ _ _ us hl => match us, hl with | [_, _], _ => rfl
  have F25 := fun_mk (st := s_Web_tie) l25 c25 k25
  have b25 := F25.binds (ps := ["self", "start", "name", "goal"]) fun _ _ _ _ _ _ us hl => match us, hl with | [_, _, _, _], _ => rfl
  have F26 := fun_mk (st := s_Web___len__) l26 c26 k26
  have b26 := F26.binds (ps := ["self"]) fun _ _ _ _ _ _ us hl => match us, hl with | [_], _ => rfl
  have F27 := fun_mk (st := s_Web_place) l27 c27 k27
  have b27 := F27.binds (ps := ["self"]) fun _ _ _ _ _ _ us hl => match us, hl with | [_], _ => rfl
  have F28 := fun_mk (st := s_Web_ties_at) l28 c28 k28
  have b28 := F28.binds (ps := ["self", "place"]) fun _ _ _ _ _ _ us hl => match us, hl with | [_, _], _ => rfl
  have F29 := fun_mk (st := s_Web_drop) l29 c29 k29
  have b29 := F29.binds (ps := ["self", "place"]) fun _ _ _ _ _ _ us hl => match us, hl with | [_, _], _ => rfl
  have F30 := fun_mk (st := s__law_refusal) l30 c30 k30
  have b30 := F30.binds (ps := ["net", "word", "place"]) fun _ _ _ _ _ _ us hl => match us, hl with | [_, _, _], _ => rfl
  have F31 := fun_mk (st := s__law_filled) l31 c31 k31
  have b31 := F31.binds (ps := ["bag", "net", "places", "ties", "next_one"]) fun _ _ _ _ _ _ us hl => match us, hl with | [_, _, _, _, _], _ => rfl
  have F32 := fun_mk (st := s_web_text) l32 c32 k32
  have b32 := F32.binds (ps := ["web"]) fun _ _ _ _ _ _ us hl => match us, hl with | [_], _ => rfl
  have F33 := fun_mk (st := s__law_as_a_web) l33 c33 k33
  have b33 := F33.binds (ps := ["bag", "net", "places", "ties"]) fun _ _ _ _ _ _ us hl => match us, hl with | [_, _, _, _], _ => rfl
  have F34 := fun_mk (st := s__law_more_right) l34 c34 k34
  have b34 := F34.binds (ps := ["bag", "net", "places", "ties"]) fun _ _ _ _ _ _ us hl => match us, hl with | [_, _, _, _], _ => rfl
  have F35 := fun_mk (st := s__law_no_mark) l35 c35 k35
  have b35 := F35.binds (ps := ["net"]) fun _ _ _ _ _ _ us hl => match us, hl with | [_], _ => rfl
  have F36 := fun_mk (st := s_Web_ends_of) l36 c36 k36
  have b36 := F36.binds (ps := ["self", "tie"]) fun _ _ _ _ _ _ us hl => match us, hl with | [_, _], _ => rfl
  have F37 := fun_mk (st := s__law_ends_right) l37 c37 k37
  have b37 := F37.binds (ps := ["bag", "net", "places", "ties"]) fun _ _ _ _ _ _ us hl => match us, hl with | [_, _, _, _], _ => rfl
  have F38 := fun_mk (st := s_law) l38 c38 k38
  refine ⟨PySem.W.fnOf "law" "law" (defArgs s_law) (defBody s_law) (defScope s_law) .none kV38 dc38 pm38 an38 cd38 ct38, fun s v => .of_eq rfl, fun base _ _ => ?_⟩
  let C__law_bag : Cal l.prog w K mg base 1 "_law_bag" ["script"] sem__law_bag := ⟨f0, _, ok__law_bag F0 T  , PySem.W.mg_of X G a0, F0.kp, b0⟩
  let C__law_stirred : Cal l.prog w K mg base 1 "_law_stirred" ["bag", "many"] sem__law_stirred := ⟨f1, _, ok__law_stirred F1 T  , PySem.W.mg_of X G a1, F1.kp, b1⟩
  let C__law_draw : Cal l.prog w K mg base 2 "_law_draw" ["bag", "many"] sem__law_draw := ⟨f2, _, ok__law_draw F2 T C__law_stirred , PySem.W.mg_of X G a2, F2.kp, b2⟩
  let C__law_name : Cal l.prog w K mg base 3 "_law_name" ["bag"] sem__law_name := ⟨f3, _, ok__law_name F3 T C__law_draw , PySem.W.mg_of X G a3, F3.kp, b3⟩
  let C__law_web : Cal l.prog w K mg base 4 "_law_web" ["bag", "places", "ties", "far"] sem__law_web := ⟨f4, _, ok__law_web F4 T C__law_draw C__law_name , PySem.W.mg_of X G a4, F4.kp, b4⟩
  let C__law_web_written : Cal l.prog w K mg base 1 "_law_web_written" ["places", "ties"] sem__law_web_written := ⟨f5, _, ok__law_web_written F5 T  , PySem.W.mg_of X G a5, F5.kp, b5⟩
  let C_Web___init__ : CalD l.prog w K mg base 1 "Web" ["self", "most_places", "most_ties"] sem_Web___init__ dv_Web___init__ := ⟨["_most_places", "_most_ties", "_places", "_ties", "_next_place", "_next_tie", "_marks"], Q_Web, f6, _, ok_Web___init__ F6 T  , ⟨mk_Web, a6, i6, kc_Web⟩, ds6, _, dv6, fun _ _ => ⟨_, _, rfl, rfl, ⟨_, _, rfl, rfl, rfl⟩⟩, b6⟩
  let C_Web_put_back : CalM l.prog w K mg base 1 "Web" "put_back" ["self", "stand"] sem_Web_put_back := ⟨_, Q_Web, f7, _, ok_Web_put_back F7 T  , ⟨a7, i7, k7⟩, b7⟩
  let C_read_whole : Cal l.prog w K mg base 1 "read_whole" ["text"] sem_read_whole := ⟨f8, _, ok_read_whole F8 T  , PySem.W.mg_of X G a8, F8.kp, b8⟩
  let C_is_name : Cal l.prog w K mg base 1 "is_name" ["text"] sem_is_name := ⟨f9, _, ok_is_name F9 T  , PySem.W.mg_of X G a9, F9.kp, b9⟩
  let C_read_tie : Cal l.prog w K mg base 2 "read_tie" ["words"] sem_read_tie := ⟨f10, _, ok_read_tie F10 T C_read_whole C_is_name , PySem.W.mg_of X G a10, F10.kp, b10⟩
  let C_read_rows : Cal l.prog w K mg base 3 "read_rows" ["text"] sem_read_rows := ⟨f11, _, ok_read_rows F11 T C_read_whole C_read_tie , PySem.W.mg_of X G a11, F11.kp, b11⟩
  let C_rises : Cal l.prog w K mg base 1 "rises" ["numbers"] sem_rises := ⟨f12, _, ok_rises F12 T  , PySem.W.mg_of X G a12, F12.kp, b12⟩
  let C_next_number : Cal l.prog w K mg base 1 "next_number" ["numbers"] sem_next_number := ⟨f13, _, ok_next_number F13 T  , PySem.W.mg_of X G a13, F13.kp, b13⟩
  let C_read_web : Cal l.prog w K mg base 4 "read_web" ["text"] sem_read_web := ⟨f14, _, ok_read_web F14 T C_Web___init__ C_Web_put_back C_read_rows C_rises C_next_number , PySem.W.mg_of X G a14, F14.kp, b14⟩
  let C_Web_undo : CalMX l.prog w K mg base 2 "Web" "undo" ["self", "mark"] sem_Web_undo := ⟨_, Q_Web, f15, _, ok_Web_undo F15 T C_Web_put_back , ⟨a15, i15, k15⟩, b15⟩
  let C_Web__need_tie : CalMX l.prog w K mg base 1 "Web" "_need_tie" ["self", "tie"] sem_Web__need_tie := ⟨_, Q_Web, f16, _, ok_Web__need_tie F16 T  , ⟨a16, i16, k16⟩, b16⟩
  let C_Web_cut : CalMX l.prog w K mg base 2 "Web" "cut" ["self", "tie"] sem_Web_cut := ⟨_, Q_Web, f17, _, ok_Web_cut F17 T C_Web__need_tie , ⟨a17, i17, k17⟩, b17⟩
  let C__law_alike : Cal l.prog w K mg base 6 "_law_alike" ["found", "due"] (sem__law_alike 5) := cal__law_alike F18 T   (PySem.W.mg_of X G a18) b18 5
  let C_Web_places : CalM l.prog w K mg base 1 "Web" "places" ["self"] sem_Web_places := ⟨_, Q_Web, f19, _, ok_Web_places F19 T  , ⟨a19, i19, k19⟩, b19⟩
  let C_Web_ties : CalM l.prog w K mg base 1 "Web" "ties" ["self"] sem_Web_ties := ⟨_, Q_Web, f20, _, ok_Web_ties F20 T  , ⟨a20, i20, k20⟩, b20⟩
  let C_Web_stand : CalM l.prog w K mg base 2 "Web" "stand" ["self"] sem_Web_stand := ⟨_, Q_Web, f21, _, ok_Web_stand F21 T C_Web_places C_Web_ties , ⟨a21, i21, k21⟩, b21⟩
  let C_Web_mark : CalM l.prog w K mg base 3 "Web" "mark" ["self"] sem_Web_mark := ⟨_, Q_Web, f22, _, ok_Web_mark F22 T C_Web_stand , ⟨a22, i22, k22⟩, b22⟩
  let C_Web__need_place : CalMX l.prog w K mg base 1 "Web" "_need_place" ["self", "place"] sem_Web__need_place := ⟨_, Q_Web, f23, _, ok_Web__need_place F23 T  , ⟨a23, i23, k23⟩, b23⟩
  let C_Full___init__ : CalXF l.prog w K mg base 1 "Full" "most" := .mk' baseX_lookup xg_Full (PySem.W.mg_of X G xg_Full) ⟨⟨_, _, _, _, _, _, _, _, _, _, _, _, _, _, lx_XFull⟩, sa_XFull, xs_Full, xt_Full, xk_Full⟩ a24 i24 no_XFull (ok_Full___init__ F24 T) b24
  let C_Web_tie : CalMX l.prog w K mg base 3 "Web" "tie" ["self", "start", "name", "goal"] sem_Web_tie := ⟨_, Q_Web, f25, _, ok_Web_tie F25 T C_is_name C_Web__need_place C_Full___init__ , ⟨a25, i25, k25⟩, b25⟩
  let C_Web___len__ : CalM l.prog w K mg base 1 "Web" "__len__" ["self"] sem_Web___len__ := ⟨_, Q_Web, f26, _, ok_Web___len__ F26 T  , ⟨a26, i26, k26⟩, b26⟩
  let C_Web_place : CalMX l.prog w K mg base 3 "Web" "place" ["self"] sem_Web_place := ⟨_, Q_Web, f27, _, ok_Web_place F27 T C_Full___init__ , ⟨a27, i27, k27⟩, b27⟩
  let C_Web_ties_at : CalMX l.prog w K mg base 2 "Web" "ties_at" ["self", "place"] sem_Web_ties_at := ⟨_, Q_Web, f28, _, ok_Web_ties_at F28 T C_Web_ties C_Web__need_place , ⟨a28, i28, k28⟩, b28⟩
  let C_Web_drop : CalMX l.prog w K mg base 3 "Web" "drop" ["self", "place"] sem_Web_drop := ⟨_, Q_Web, f29, _, ok_Web_drop F29 T C_Web_ties_at , ⟨a29, i29, k29⟩, b29⟩
  let C__law_refusal : Cal l.prog w K mg base 4 "_law_refusal" ["net", "word", "place"] sem__law_refusal := ⟨f30, _, ok__law_refusal F30 T C_Web_tie C_Web_place C_Web_drop , PySem.W.mg_of X G a30, F30.kp, b30⟩
  let C__law_filled : Cal l.prog w K mg base 7 "_law_filled" ["bag", "net", "places", "ties", "next_one"] sem__law_filled := ⟨f31, _, ok__law_filled F31 T C__law_draw C__law_alike C_Web_tie C_Web___len__ C_Web_place C__law_refusal , PySem.W.mg_of X G a31, F31.kp, b31⟩
  let C_web_text : Cal l.prog w K mg base 2 "web_text" ["web"] sem_web_text := ⟨f32, _, ok_web_text F32 T C_Web_places C_Web_ties , PySem.W.mg_of X G a32, F32.kp, b32⟩
  let C__law_as_a_web : Cal l.prog w K mg base 8 "_law_as_a_web" ["bag", "net", "places", "ties"] sem__law_as_a_web := ⟨f33, _, ok__law_as_a_web F33 T C__law_draw C__law_web_written C_Web_undo C_Web_cut C__law_alike C_Web_places C_Web_ties C_Web_mark C__law_refusal C__law_filled C_web_text , PySem.W.mg_of X G a33, F33.kp, b33⟩
  let C__law_more_right : Cal l.prog w K mg base 7 "_law_more_right" ["bag", "net", "places", "ties"] sem__law_more_right := ⟨f34, _, ok__law_more_right F34 T C__law_draw C__law_web_written C_Web_cut C__law_alike C_Web_places C_Web_ties C_Web_tie C_Web_place C_web_text , PySem.W.mg_of X G a34, F34.kp, b34⟩
  let C__law_no_mark : Cal l.prog w K mg base 3 "_law_no_mark" ["net"] sem__law_no_mark := ⟨f35, _, ok__law_no_mark F35 T C_Web_undo , PySem.W.mg_of X G a35, F35.kp, b35⟩
  let C_Web_ends_of : CalMX l.prog w K mg base 2 "Web" "ends_of" ["self", "tie"] sem_Web_ends_of := ⟨_, Q_Web, f36, _, ok_Web_ends_of F36 T C_Web__need_tie , ⟨a36, i36, k36⟩, b36⟩
  let C__law_ends_right : Cal l.prog w K mg base 7 "_law_ends_right" ["bag", "net", "places", "ties"] sem__law_ends_right := ⟨f37, _, ok__law_ends_right F37 T C__law_draw C__law_alike C_Web_ties_at C_Web_ends_of , PySem.W.mg_of X G a37, F37.kp, b37⟩
  have W_read_web_text_0_law : KwB K C_read_web.fd ["text"] 0 ["text"] [0] := KwB.mk' F14 0 ["text"] [0] fun _ _ _ _ _ _ us ws h1 h2 => match us, ws, h1, h2 with | [], [_], _, _ => rfl
  have W_web_text_web_0_law : KwB K C_web_text.fd ["web"] 0 ["web"] [0] := KwB.mk' F32 0 ["web"] [0] fun _ _ _ _ _ _ us ws h1 h2 => match us, ws, h1, h2 with | [], [_], _, _ => rfl
  exact law_ok (ok_law F38 T C__law_bag C__law_draw C__law_web C__law_web_written C_read_web C__law_alike C_Web_places C_Web_ties C_Web___len__ C_web_text C__law_as_a_web C__law_more_right C__law_no_mark C__law_ends_right W_read_web_text_0_law W_web_text_web_0_law) hlaw
end LW

open PySem PySem.W PyProof.Rows in
set_option maxRecDepth 100000 in
set_option maxHeartbeats 0 in
theorem PySem.Challenge.cw_wordways_k82_webs_read_holds : PySem.Challenge.rw_wordways_k82_webs_read.Holds := by
  w_on; o_law; k_head; (case hw => w_witness2)
  k_fill
  refine DL.law_walk (l := PySem.Challenge.rw_wordways_k82_webs_read) 9 (x := "script") ⟨rfl, by decide, by decide⟩ rfl rfl (fun w h Y => PySem.W.kIn_of Y) ?F
  case F =>
    intro w mg fa h KX G hmg
    refine' LW.all_mk KX G hmg ?ac_Web ?pg_Web ?hd_Web ?po_Web ?sa_Web ?mk_Web ?kc_Web ?nf_Web__most_places ?nf_Web__most_ties ?nf_Web__places ?nf_Web__ties ?nf_Web__next_place ?nf_Web__next_tie ?nf_Web__marks ?a0 ?l0 ?c0 ?k0 ?a1 ?l1 ?c1 ?k1 ?a2 ?l2 ?c2 ?k2 ?a3 ?l3 ?c3 ?k3 ?a4 ?l4 ?c4 ?k4 ?a5 ?l5 ?c5 ?k5 ?a6 ?i6 ?l6 ?c6 ?k6 ?kd6_0 ?kd6_1 ?a7 ?i7 ?l7 ?c7 ?k7 ?a8 ?l8 ?c8 ?k8 ?a9 ?l9 ?c9 ?k9 ?a10 ?l10 ?c10 ?k10 ?a11 ?l11 ?c11 ?k11 ?a12 ?l12 ?c12 ?k12 ?a13 ?l13 ?c13 ?k13 ?a14 ?l14 ?c14 ?k14 ?a15 ?i15 ?l15 ?c15 ?k15 ?a16 ?i16 ?l16 ?c16 ?k16 ?a17 ?i17 ?l17 ?c17 ?k17 ?a18 ?l18 ?c18 ?k18 ?a19 ?i19 ?l19 ?c19 ?k19 ?a20 ?i20 ?l20 ?c20 ?k20 ?a21 ?i21 ?l21 ?c21 ?k21 ?a22 ?i22 ?l22 ?c22 ?k22 ?a23 ?i23 ?l23 ?c23 ?k23 ?xg_Full ?lx_XFull ?sa_XFull ?xs_Full ?xt_Full ?xk_Full ?no_XFull ?vi_LookupError ?a24 ?i24 ?l24 ?c24 ?k24 ?a25 ?i25 ?l25 ?c25 ?k25 ?a26 ?i26 ?l26 ?c26 ?k26 ?a27 ?i27 ?l27 ?c27 ?k27 ?a28 ?i28 ?l28 ?c28 ?k28 ?a29 ?i29 ?l29 ?c29 ?k29 ?a30 ?l30 ?c30 ?k30 ?a31 ?l31 ?c31 ?k31 ?a32 ?l32 ?c32 ?k32 ?a33 ?l33 ?c33 ?k33 ?a34 ?l34 ?c34 ?k34 ?a35 ?l35 ?c35 ?k35 ?a36 ?i36 ?l36 ?c36 ?k36 ?a37 ?l37 ?c37 ?k37 ?a38 ?l38 ?c38 ?k38 ?xg_NoMark ?xg_NoName ?xg_NoPlace ?xg_NoTie ?xg_Tied ?xq_NoMark ?xk_NoMark ?xs_NoMark ?xt_NoMark ?xq_NoName ?xk_NoName ?xs_NoName ?xt_NoName ?xq_NoPlace ?xk_NoPlace ?xs_NoPlace ?xt_NoPlace ?xq_NoTie ?xk_NoTie ?xs_NoTie ?xt_NoTie ?xq_Tied ?xk_Tied ?xs_Tied ?xt_Tied ?tb_Full ?ti_Full ?tt_Full ?ty_Full ?tn_Full_NoMark ?tn_Full_NoName ?tn_Full_NoPlace ?tn_Full_NoTie ?tn_Full_Tied ?tb_NoMark ?ti_NoMark ?tt_NoMark ?ty_NoMark ?tn_NoMark_Full ?tn_NoMark_NoName ?tn_NoMark_NoPlace ?tn_NoMark_NoTie ?tn_NoMark_Tied ?tb_NoPlace ?ti_NoPlace ?tt_NoPlace ?ty_NoPlace ?tn_NoPlace_Full ?tn_NoPlace_NoMark ?tn_NoPlace_NoName ?tn_NoPlace_NoTie ?tn_NoPlace_Tied ?tb_Tied ?ti_Tied ?tt_Tied ?ty_Tied ?tn_Tied_Full ?tn_Tied_NoMark ?tn_Tied_NoName ?tn_Tied_NoPlace ?tn_Tied_NoTie ?eg_Full ?ek_Full ?ed_Full ?zz_LookupError ?zz_abs ?zz_all ?zz_bool ?zz_int ?zz_isinstance ?zz_len ?zz_list ?zz_max ?zz_min ?zz_range ?zz_set ?zz_sorted ?zz_str ?zz_tuple ?g_FIGURES ?g_LONGEST_NAME ?g_MOST_FIGURES ?g_MOST_PLACES ?g_MOST_TIES ?g_SMALL_LETTERS ?hlaw
    (case ac_Web => k_is)
    (case pg_Web => k_is)
    (case hd_Web => k_is)
    (case po_Web => k_is)
    (case sa_Web => k_is)
    (case mk_Web => k_is)
    (case kc_Web => k_is)
    (case nf_Web__most_places => k_is)
    (case nf_Web__most_ties => k_is)
    (case nf_Web__places => k_is)
    (case nf_Web__ties => k_is)
    (case nf_Web__next_place => k_is)
    (case nf_Web__next_tie => k_is)
    (case nf_Web__marks => k_is)
    (case a0 => k_is)
    (case l0 => k_is)
    (case c0 => k_is)
    (case k0 => k_is)
    (case a1 => k_is)
    (case l1 => k_is)
    (case c1 => k_is)
    (case k1 => k_is)
    (case a2 => k_is)
    (case l2 => k_is)
    (case c2 => k_is)
    (case k2 => k_is)
    (case a3 => k_is)
    (case l3 => k_is)
    (case c3 => k_is)
    (case k3 => k_is)
    (case a4 => k_is)
    (case l4 => k_is)
    (case c4 => k_is)
    (case k4 => k_is)
    (case a5 => k_is)
    (case l5 => k_is)
    (case c5 => k_is)
    (case k5 => k_is)
    (case a6 => k_is)
    (case i6 => k_is)
    (case l6 => k_is)
    (case c6 => k_is)
    (case k6 => k_is)
    (case kd6_0 => k_is)
    (case kd6_1 => k_is)
    (case a7 => k_is)
    (case i7 => k_is)
    (case l7 => k_is)
    (case c7 => k_is)
    (case k7 => k_is)
    (case a8 => k_is)
    (case l8 => k_is)
    (case c8 => k_is)
    (case k8 => k_is)
    (case a9 => k_is)
    (case l9 => k_is)
    (case c9 => k_is)
    (case k9 => k_is)
    (case a10 => k_is)
    (case l10 => k_is)
    (case c10 => k_is)
    (case k10 => k_is)
    (case a11 => k_is)
    (case l11 => k_is)
    (case c11 => k_is)
    (case k11 => k_is)
    (case a12 => k_is)
    (case l12 => k_is)
    (case c12 => k_is)
    (case k12 => k_is)
    (case a13 => k_is)
    (case l13 => k_is)
    (case c13 => k_is)
    (case k13 => k_is)
    (case a14 => k_is)
    (case l14 => k_is)
    (case c14 => k_is)
    (case k14 => k_is)
    (case a15 => k_is)
    (case i15 => k_is)
    (case l15 => k_is)
    (case c15 => k_is)
    (case k15 => k_is)
    (case a16 => k_is)
    (case i16 => k_is)
    (case l16 => k_is)
    (case c16 => k_is)
    (case k16 => k_is)
    (case a17 => k_is)
    (case i17 => k_is)
    (case l17 => k_is)
    (case c17 => k_is)
    (case k17 => k_is)
    (case a18 => k_is)
    (case l18 => k_is)
    (case c18 => k_is)
    (case k18 => k_is)
    (case a19 => k_is)
    (case i19 => k_is)
    (case l19 => k_is)
    (case c19 => k_is)
    (case k19 => k_is)
    (case a20 => k_is)
    (case i20 => k_is)
    (case l20 => k_is)
    (case c20 => k_is)
    (case k20 => k_is)
    (case a21 => k_is)
    (case i21 => k_is)
    (case l21 => k_is)
    (case c21 => k_is)
    (case k21 => k_is)
    (case a22 => k_is)
    (case i22 => k_is)
    (case l22 => k_is)
    (case c22 => k_is)
    (case k22 => k_is)
    (case a23 => k_is)
    (case i23 => k_is)
    (case l23 => k_is)
    (case c23 => k_is)
    (case k23 => k_is)
    (case xg_Full => k_is)
    (case lx_XFull => k_is)
    (case sa_XFull => k_is)
    (case xs_Full => k_is)
    (case xt_Full => k_is)
    (case xk_Full => k_is)
    (case no_XFull => k_is)
    (case vi_LookupError => k_is)
    (case a24 => k_is)
    (case i24 => k_is)
    (case l24 => k_is)
    (case c24 => k_is)
    (case k24 => k_is)
    (case a25 => k_is)
    (case i25 => k_is)
    (case l25 => k_is)
    (case c25 => k_is)
    (case k25 => k_is)
    (case a26 => k_is)
    (case i26 => k_is)
    (case l26 => k_is)
    (case c26 => k_is)
    (case k26 => k_is)
    (case a27 => k_is)
    (case i27 => k_is)
    (case l27 => k_is)
    (case c27 => k_is)
    (case k27 => k_is)
    (case a28 => k_is)
    (case i28 => k_is)
    (case l28 => k_is)
    (case c28 => k_is)
    (case k28 => k_is)
    (case a29 => k_is)
    (case i29 => k_is)
    (case l29 => k_is)
    (case c29 => k_is)
    (case k29 => k_is)
    (case a30 => k_is)
    (case l30 => k_is)
    (case c30 => k_is)
    (case k30 => k_is)
    (case a31 => k_is)
    (case l31 => k_is)
    (case c31 => k_is)
    (case k31 => k_is)
    (case a32 => k_is)
    (case l32 => k_is)
    (case c32 => k_is)
    (case k32 => k_is)
    (case a33 => k_is)
    (case l33 => k_is)
    (case c33 => k_is)
    (case k33 => k_is)
    (case a34 => k_is)
    (case l34 => k_is)
    (case c34 => k_is)
    (case k34 => k_is)
    (case a35 => k_is)
    (case l35 => k_is)
    (case c35 => k_is)
    (case k35 => k_is)
    (case a36 => k_is)
    (case i36 => k_is)
    (case l36 => k_is)
    (case c36 => k_is)
    (case k36 => k_is)
    (case a37 => k_is)
    (case l37 => k_is)
    (case c37 => k_is)
    (case k37 => k_is)
    (case a38 => k_is)
    (case l38 => k_is)
    (case c38 => k_is)
    (case k38 => k_is)
    (case xg_NoMark => k_is)
    (case xg_NoName => k_is)
    (case xg_NoPlace => k_is)
    (case xg_NoTie => k_is)
    (case xg_Tied => k_is)
    (case xq_NoMark => k_exc)
    (case xk_NoMark => k_is)
    (case xs_NoMark => k_is)
    (case xt_NoMark => k_is)
    (case xq_NoName => k_exc)
    (case xk_NoName => k_is)
    (case xs_NoName => k_is)
    (case xt_NoName => k_is)
    (case xq_NoPlace => k_exc)
    (case xk_NoPlace => k_is)
    (case xs_NoPlace => k_is)
    (case xt_NoPlace => k_is)
    (case xq_NoTie => k_exc)
    (case xk_NoTie => k_is)
    (case xs_NoTie => k_is)
    (case xt_NoTie => k_is)
    (case xq_Tied => k_exc)
    (case xk_Tied => k_is)
    (case xs_Tied => k_is)
    (case xt_Tied => k_is)
    (case tb_Full => k_is)
    (case ti_Full => k_is)
    (case tt_Full => k_is)
    (case ty_Full => k_is)
    (case tn_Full_NoMark => k_is)
    (case tn_Full_NoName => k_is)
    (case tn_Full_NoPlace => k_is)
    (case tn_Full_NoTie => k_is)
    (case tn_Full_Tied => k_is)
    (case tb_NoMark => k_is)
    (case ti_NoMark => k_is)
    (case tt_NoMark => k_is)
    (case ty_NoMark => k_is)
    (case tn_NoMark_Full => k_is)
    (case tn_NoMark_NoName => k_is)
    (case tn_NoMark_NoPlace => k_is)
    (case tn_NoMark_NoTie => k_is)
    (case tn_NoMark_Tied => k_is)
    (case tb_NoPlace => k_is)
    (case ti_NoPlace => k_is)
    (case tt_NoPlace => k_is)
    (case ty_NoPlace => k_is)
    (case tn_NoPlace_Full => k_is)
    (case tn_NoPlace_NoMark => k_is)
    (case tn_NoPlace_NoName => k_is)
    (case tn_NoPlace_NoTie => k_is)
    (case tn_NoPlace_Tied => k_is)
    (case tb_Tied => k_is)
    (case ti_Tied => k_is)
    (case tt_Tied => k_is)
    (case ty_Tied => k_is)
    (case tn_Tied_Full => k_is)
    (case tn_Tied_NoMark => k_is)
    (case tn_Tied_NoName => k_is)
    (case tn_Tied_NoPlace => k_is)
    (case tn_Tied_NoTie => k_is)
    (case eg_Full => k_is)
    (case ek_Full => k_is)
    (case ed_Full => k_is)
    (case zz_LookupError => k_is)
    (case zz_abs => k_is)
    (case zz_all => k_is)
    (case zz_bool => k_is)
    (case zz_int => k_is)
    (case zz_isinstance => k_is)
    (case zz_len => k_is)
    (case zz_list => k_is)
    (case zz_max => k_is)
    (case zz_min => k_is)
    (case zz_range => k_is)
    (case zz_set => k_is)
    (case zz_sorted => k_is)
    (case zz_str => k_is)
    (case zz_tuple => k_is)
    (case g_FIGURES => k_is)
    (case g_LONGEST_NAME => k_is)
    (case g_MOST_FIGURES => k_is)
    (case g_MOST_PLACES => k_is)
    (case g_MOST_TIES => k_is)
    (case g_SMALL_LETTERS => k_is)
    (case hlaw => exact LW.hlaw)
