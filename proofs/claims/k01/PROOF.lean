import PyProof.Rows.All
import Wide.All
import OpenK.AllK
import Wide.FinOn
import HandS.ForMost
import HandS.ForExc
import HandS.Walk
import HandS.CallSlots
import HandS.TupAny
import HandS.Wide
import HandS.WideBits
import HandS.IsInst
import HandS.Deep
import HandS.EndBits
import PyProof.ReprReads
import PyProof.ReprRoads
import KE.SortCalls
import KE.SortKeyed
import KE.DataCmp
import HandS.Conv
import HandS.Style
import HandS.Defaults
import PyProof.ReprLen
import PyProof.FitsInt
import PySem.Challenge.RW_clearsheets_k01_groups_and_parts
set_option Elab.async false
set_option linter.all false
set_option maxRecDepth 100000
set_option maxHeartbeats 2000000
namespace RL
open PySem PySem.Spec PyProof.Rows L2

/-! ### abstract values, cells, stores -/
inductive D where
  | non | bl (b : Bool) | int (i : Int) | str (s : Str) | tup (xs : List D) | ptr (n : Nat)
inductive Cell where
  | lst (xs : List D)
  | rol (xs : List D)
  | dct (kvs : List (L2.Key × D))
abbrev Store := List Cell
abbrev Env := List (Option D)
structure Exn where
  name : Str
  fs : List (Str × D)
inductive Res (α : Type) where
  | ok (a : α) (S : Store) | exn (x : Exn) (S : Store) | bad
def Res.bind {α β : Type} (r : Res α) (f : α → Store → Res β) : Res β :=
  match r with
  | .ok a S => f a S
  | .exn x S => .exn x S
  | .bad => .bad
inductive SRes where
  | next (ρ : Env) (S : Store) | ret (d : D) (S : Store) | brk (ρ : Env) (S : Store) | cont (ρ : Env) (S : Store) | exn (x : Exn) (ρ : Env) (S : Store) | bad
abbrev ME := Env → Store → Res D
abbrev MT := Env → Store → Res Bool
abbrev MA := Env → Store → Res (List D)
abbrev MS := Env → Store → SRes
abbrev Fn := List D → Store → Res D

/-! ### how they lie in the heap -/
/-- a list of the written part -/
def KSeq (K : PySem.W.Frag) (a : Addr) (xs : List V) : Prop :=
  ∃ (o : Obj) (its : Array Value) (n : Nat), K.lookup a = some o ∧ o.cls = .type "list" ∧ o.dict = none ∧ o.data = .seq its n ∧ its.size ≤ sizeLine ∧ Vals xs its.toList
def Cell.mut : Cell → Bool
  | .rol _ => false
  | _ => true
section
variable (K : PySem.W.Frag) (H : Hp) (φ : List Addr)
mutual
def RD : D → V → Prop
  | .non, v => v = .non
  | .bl b, v => v = .bl b
  | .int i, v => v = .int i
  | .str s, v => v = .str s
  | .tup ds, v => ∃ a xs, v = .ref a ∧ SqT K H a xs ∧ RDs ds xs
  | .ptr n, v => ∃ a, φ[n]? = some a ∧ v = .ref a
def RDs : List D → List V → Prop
  | [], vs => vs = []
  | d :: ds, vs => ∃ v vs', vs = v :: vs' ∧ RD d v ∧ RDs ds vs'
end
def RE : Env → L2.St → Prop
  | [], σ => σ = []
  | none :: ρ, σ => ∃ ov σ', σ = ov :: σ' ∧ RE ρ σ'
  | some d :: ρ, σ => ∃ v σ', σ = some v :: σ' ∧ RD K H φ d v ∧ RE ρ σ'
def RKv : List (L2.Key × D) → List (L2.Key × V) → Prop
  | [], ks => ks = []
  | (k, d) :: r, ks => ∃ v r', ks = (k, v) :: r' ∧ RD K H φ d v ∧ RKv r r'
def RC : Cell → Addr → Prop
  | .lst ds, a => ∃ xs, H a = some (.lst xs) ∧ RDs K H φ ds xs
  | .rol ds, a => ∃ xs, ((∃ o, H a = some (.frz o (.lst xs))) ∨ KSeq K a xs) ∧ RDs K H φ ds xs
  | .dct kvs, a => ∃ ks, H a = some (.dK ks) ∧ RKv K H φ kvs ks
structure RS (S : Store) : Prop where
  len : φ.length = S.length
  nd : ∀ (m n : Nat) (a : Addr) (c c' : Cell), S[m]? = some c → S[n]? = some c' → φ[m]? = some a → φ[n]? = some a → c.mut = true → c'.mut = true → m = n
  cell : ∀ (n : Nat) (c : Cell) (a : Addr), S[n]? = some c → φ[n]? = some a → RC K H φ c a
def RX (mg : Str → Option Value) (x : Exn) (cls : Value) (d : Option Addr) : Prop :=
  mg x.name = some cls ∧ match d with
    | none => x.fs = []
    | some a => ∃ fs, H a = some (.xd fs) ∧ ∀ f e, (f, e) ∈ x.fs → ∃ v, fs.lookup f = some v ∧ RD K H φ e v
end
structure Ext (K : PySem.W.Frag) (φ : List Addr) (H : Hp) (φ' : List Addr) (H' : Hp) : Prop where
  pre : ∀ (n : Nat) (a : Addr), φ[n]? = some a → φ'[n]? = some a
  tup : ∀ (a : Addr) (xs : List V), SqT K H a xs → SqT K H' a xs

section
variable {K : PySem.W.Frag} {H H' H'' : Hp} {φ φ' φ'' : List Addr}
theorem Ext.refl : Ext K φ H φ H := ⟨fun _ _ h => h, fun _ _ h => h⟩
theorem Ext.trans (a : Ext K φ H φ' H') (b : Ext K φ' H' φ'' H'') : Ext K φ H φ'' H'' := ⟨fun n x h => b.pre n x (a.pre n x h), fun x xs h => b.tup x xs (a.tup x xs h)⟩
mutual
theorem RD.mono (x : Ext K φ H φ' H') : ∀ (d : D) (v : V), RD K H φ d v → RD K H' φ' d v
  | .non, _, h => h
  | .bl _, _, h => h
  | .int _, _, h => h
  | .str _, _, h => h
  | .tup ds, _, h => by
    unfold RD at h ⊢
    obtain ⟨a, xs, e, s, r⟩ := h
    exact ⟨a, xs, e, x.tup _ _ s, RDs.mono x ds xs r⟩
  | .ptr n, _, h => by
    unfold RD at h ⊢
    obtain ⟨a, p, e⟩ := h
    exact ⟨a, x.pre _ _ p, e⟩
theorem RDs.mono (x : Ext K φ H φ' H') : ∀ (ds : List D) (vs : List V), RDs K H φ ds vs → RDs K H' φ' ds vs
  | [], _, h => h
  | d :: ds, _, h => by
    unfold RDs at h ⊢
    obtain ⟨v, vs', e, r, s⟩ := h
    exact ⟨v, vs', e, RD.mono x d v r, RDs.mono x ds vs' s⟩
end
theorem RE.mono (x : Ext K φ H φ' H') : ∀ (ρ : Env) (σ : L2.St), RE K H φ ρ σ → RE K H' φ' ρ σ
  | [], _, h => h
  | none :: ρ, _, h => by
    unfold RE at h ⊢
    obtain ⟨o, s, e, r⟩ := h
    exact ⟨o, s, e, RE.mono x ρ s r⟩
  | some d :: ρ, _, h => by
    unfold RE at h ⊢
    obtain ⟨v, s, e, q, r⟩ := h
    exact ⟨v, s, e, q.mono x, RE.mono x ρ s r⟩
theorem RKv.mono (x : Ext K φ H φ' H') : ∀ (ds : List (L2.Key × D)) (vs : List (L2.Key × V)), RKv K H φ ds vs → RKv K H' φ' ds vs
  | [], _, h => h
  | (k, d) :: ds, _, h => by
    unfold RKv at h ⊢
    obtain ⟨v, vs', e, r, s⟩ := h
    exact ⟨v, vs', e, RD.mono x d v r, RKv.mono x ds vs' s⟩
theorem RDs.length : ∀ {ds : List D} {vs : List V}, RDs K H φ ds vs → vs.length = ds.length
  | [], _, h => by unfold RDs at h; rw [h]; rfl
  | _ :: _, _, h => by
    unfold RDs at h
    obtain ⟨v, vs', e, _, s⟩ := h
    rw [e, List.length_cons, List.length_cons, s.length]
theorem RE.length : ∀ {ρ : Env} {σ : L2.St}, RE K H φ ρ σ → σ.length = ρ.length
  | [], _, h => by unfold RE at h; rw [h]; rfl
  | none :: _, _, h => by
    unfold RE at h
    obtain ⟨o, s, e, r⟩ := h
    rw [e, List.length_cons, List.length_cons, r.length]
  | some _ :: _, _, h => by
    unfold RE at h
    obtain ⟨o, s, e, _, r⟩ := h
    rw [e, List.length_cons, List.length_cons, r.length]
theorem RE.get : ∀ {ρ : Env} {σ : L2.St} {i : Nat} {d : D}, RE K H φ ρ σ → ρ[i]? = some (some d) → ∃ v, σ[i]? = some (some v) ∧ RD K H φ d v
  | [], _, _, _, _, e => by simp at e
  | none :: ρ, σ, i, d, h, e => by
    unfold RE at h
    obtain ⟨o, s, q, r⟩ := h
    cases i with
    | zero => simp at e
    | succ i =>
      obtain ⟨v, h1, h2⟩ := r.get (i := i) (d := d) (by simpa using e)
      exact ⟨v, by rw [q]; simpa using h1, h2⟩
  | some d' :: ρ, σ, i, d, h, e => by
    unfold RE at h
    obtain ⟨v, s, q, rd, r⟩ := h
    cases i with
    | zero =>
      have : d' = d := by simpa using e
      subst this
      exact ⟨v, by rw [q]; rfl, rd⟩
    | succ i =>
      obtain ⟨v, h1, h2⟩ := r.get (i := i) (d := d) (by simpa using e)
      exact ⟨v, by rw [q]; simpa using h1, h2⟩
theorem RE.set : ∀ {ρ : Env} {σ : L2.St} {d : D} {v : V} (i : Nat), RE K H φ ρ σ → RD K H φ d v → RE K H φ (ρ.set i (some d)) (σ.set i (some v))
  | [], _, _, _, i, h, _ => by unfold RE at h; subst h; simp only [List.set_nil]; unfold RE; rfl
  | o :: ρ, σ, d, v, i, h, rd => by
    cases o with
    | none =>
      unfold RE at h
      obtain ⟨o, s, q, r⟩ := h
      subst q
      cases i with
      | zero => simp only [List.set_cons_zero]; unfold RE; exact ⟨v, s, rfl, rd, r⟩
      | succ i => simp only [List.set_cons_succ]; unfold RE; exact ⟨o, _, rfl, r.set i rd⟩
    | some d' =>
      unfold RE at h
      obtain ⟨v', s, q, rd', r⟩ := h
      subst q
      cases i with
      | zero => simp only [List.set_cons_zero]; unfold RE; exact ⟨v, s, rfl, rd, r⟩
      | succ i => simp only [List.set_cons_succ]; unfold RE; exact ⟨v', _, rfl, rd', r.set i rd⟩
theorem RE.forget : ∀ {ρ : Env} {σ : L2.St} (i : Nat) {o : Option V}, RE K H φ ρ σ → RE K H φ (ρ.set i none) (σ.set i o)
  | [], _, i, _, h => by unfold RE at h; subst h; simp only [List.set_nil]; unfold RE; rfl
  | o :: ρ, σ, i, o', h => by
    cases o with
    | none =>
      unfold RE at h
      obtain ⟨o, s, q, r⟩ := h
      subst q
      cases i with
      | zero => simp only [List.set_cons_zero]; unfold RE; exact ⟨o', s, rfl, r⟩
      | succ i => simp only [List.set_cons_succ]; unfold RE; exact ⟨o, _, rfl, r.forget i⟩
    | some d' =>
      unfold RE at h
      obtain ⟨v', s, q, rd', r⟩ := h
      subst q
      cases i with
      | zero => simp only [List.set_cons_zero]; unfold RE; exact ⟨o', s, rfl, r⟩
      | succ i => simp only [List.set_cons_succ]; unfold RE; exact ⟨v', _, rfl, rd', r.forget i⟩
/-- the slots of a comprehension's own names forgotten -/
def wipeE (ρ : Env) : List Nat → Env
  | [] => ρ
  | v :: vs => (wipeE ρ vs).set v none
theorem RE.wipe {ρ : Env} {σ : L2.St} (h : RE K H φ ρ σ) : ∀ vs : List Nat, RE K H φ (wipeE ρ vs) (L2.wipe σ vs)
  | [] => h
  | v :: vs => (h.wipe vs).forget v
theorem RDs.append : ∀ {ds es : List D} {vs us : List V}, RDs K H φ ds vs → RDs K H φ es us → RDs K H φ (ds ++ es) (vs ++ us)
  | [], _, _, _, h, h' => by unfold RDs at h; subst h; exact h'
  | d :: ds, _, _, _, h, h' => by
    unfold RDs at h
    obtain ⟨v, vs', e, r, s⟩ := h
    subst e
    show RDs K H φ (d :: (ds ++ _)) (v :: (vs' ++ _))
    unfold RDs
    exact ⟨v, _, rfl, r, s.append h'⟩
theorem RDs.cons {d : D} {ds : List D} {v : V} {vs : List V} (r : RD K H φ d v) (s : RDs K H φ ds vs) : RDs K H φ (d :: ds) (v :: vs) := by
  unfold RDs; exact ⟨v, vs, rfl, r, s⟩
theorem RDs.nil : RDs K H φ [] [] := by unfold RDs; rfl
theorem RDs.get : ∀ {ds : List D} {vs : List V} {i : Nat} {d : D}, RDs K H φ ds vs → ds[i]? = some d → ∃ v, vs[i]? = some v ∧ RD K H φ d v
  | [], _, _, _, _, e => by simp at e
  | d' :: ds, _, i, d, h, e => by
    unfold RDs at h
    obtain ⟨v, vs', q, r, s⟩ := h
    subst q
    cases i with
    | zero =>
      have : d' = d := by simpa using e
      subst this
      exact ⟨v, rfl, r⟩
    | succ i =>
      obtain ⟨u, h1, h2⟩ := s.get (i := i) (d := d) (by simpa using e)
      exact ⟨u, by simpa using h1, h2⟩
theorem RDs.set : ∀ {ds : List D} {vs : List V} {d : D} {v : V} (i : Nat), RDs K H φ ds vs → RD K H φ d v → RDs K H φ (ds.set i d) (vs.set i v)
  | [], _, _, _, _, h, _ => by unfold RDs at h; subst h; simp only [List.set_nil]; exact RDs.nil
  | d' :: ds, _, d, v, i, h, rd => by
    unfold RDs at h
    obtain ⟨u, vs', q, r, s⟩ := h
    subst q
    cases i with
    | zero => exact RDs.cons rd s
    | succ i => exact RDs.cons r (s.set i rd)
theorem RDs.take : ∀ {ds : List D} {vs : List V} (i : Nat), RDs K H φ ds vs → RDs K H φ (ds.take i) (vs.take i)
  | _, _, 0, _ => RDs.nil
  | [], _, i + 1, h => by unfold RDs at h; subst h; exact RDs.nil
  | d :: ds, _, i + 1, h => by
    unfold RDs at h
    obtain ⟨u, vs', q, r, s⟩ := h
    subst q
    exact RDs.cons r (s.take i)
theorem RDs.drop : ∀ {ds : List D} {vs : List V} (i : Nat), RDs K H φ ds vs → RDs K H φ (ds.drop i) (vs.drop i)
  | _, _, 0, h => h
  | [], _, i + 1, h => by unfold RDs at h; subst h; exact RDs.nil
  | d :: ds, _, i + 1, h => by
    unfold RDs at h
    obtain ⟨u, vs', q, r, s⟩ := h
    subst q
    exact s.drop i
theorem RDs.reverse : ∀ {ds : List D} {vs : List V}, RDs K H φ ds vs → RDs K H φ ds.reverse vs.reverse
  | [], _, h => by unfold RDs at h; subst h; exact RDs.nil
  | d :: ds, _, h => by
    unfold RDs at h
    obtain ⟨u, vs', q, r, s⟩ := h
    subst q
    rw [List.reverse_cons, List.reverse_cons]
    exact s.reverse.append (RDs.cons r RDs.nil)
theorem RDs.replicate {ds : List D} {vs : List V} (h : RDs K H φ ds vs) : ∀ n, RDs K H φ (List.replicate n ds).flatten (List.replicate n vs).flatten
  | 0 => RDs.nil
  | n + 1 => by
    rw [List.replicate_succ, List.replicate_succ, List.flatten_cons, List.flatten_cons]
    exact h.append (RDs.replicate h n)
theorem RE.start : ∀ {ds : List D} {vs : List V} (n : Nat), RDs K H φ ds vs → RE K H φ (ds.map some ++ List.replicate n none) (vs.map some ++ List.replicate n none)
  | [], _, n, h => by
    unfold RDs at h; subst h
    simp only [List.map_nil, List.nil_append]
    induction n with
    | zero => simp only [List.replicate_zero]; unfold RE; rfl
    | succ n ih => rw [List.replicate_succ, List.replicate_succ]; unfold RE; exact ⟨none, _, rfl, ih⟩
  | d :: ds, _, n, h => by
    unfold RDs at h
    obtain ⟨u, vs', q, r, s⟩ := h
    subst q
    simp only [List.map_cons, List.cons_append]
    unfold RE
    exact ⟨u, _, rfl, r, RE.start n s⟩

/-! ### new objects, changed lists -/
theorem SqT.fresh {p : Addr} {o : HO} (hp : H p = none) {a : Addr} {xs : List V} (h : SqT K H a xs) : SqT K (upd H p o) a xs := by
  rcases h with (h | ⟨u, h⟩) | h
  · exact .inl (.inl (by rw [upd_ne (ne_of_none h hp)]; exact h))
  · exact .inl (.inr ⟨u, by rw [upd_ne (ne_of_none h hp)]; exact h⟩)
  · exact .inr h
/-- what is no tuple may be changed -/
def NoTup (o : HO) : Prop := (∀ xs, o ≠ .tup xs) ∧ ∀ u xs, o ≠ .frz u xs
theorem NoTup.lst {ys : List V} : NoTup (.lst ys) := ⟨fun _ z => (by cases z), fun _ _ z => (by cases z)⟩
theorem NoTup.dK {ys : List (L2.Key × V)} : NoTup (.dK ys) := ⟨fun _ z => (by cases z), fun _ _ z => (by cases z)⟩
theorem SqT.write {p : Addr} {u o : HO} (hp : H p = some u) (hu : NoTup u) {a : Addr} {xs : List V} (h : SqT K H a xs) : SqT K (upd H p o) a xs := by
  rcases h with (h | ⟨w, h⟩) | h
  · exact .inl (.inl (by rw [upd_ne (ne_of h hp (fun z => hu.1 _ z.symm))]; exact h))
  · exact .inl (.inr ⟨w, by rw [upd_ne (ne_of h hp (fun z => hu.2 _ _ z.symm))]; exact h⟩)
  · exact .inr h
theorem RC.tracked {c : Cell} {a : Addr} (h : RC K H φ c a) (hm : c.mut = true) : H a ≠ none := by
  cases c with
  | lst ds => obtain ⟨xs, e, _⟩ := h; rw [e]; exact fun z => by cases z
  | rol ds => cases hm
  | dct ds => obtain ⟨xs, e, _⟩ := h; rw [e]; exact fun z => by cases z
theorem Ext.new {p : Addr} {o : HO} (hp : H p = none) : Ext K φ H φ (upd H p o) := ⟨fun _ _ h => h, fun _ _ h => SqT.fresh hp h⟩
theorem Ext.newC {p : Addr} {o : HO} (hp : H p = none) : Ext K φ H (φ ++ [p]) (upd H p o) :=
  ⟨fun n a h => by rw [List.getElem?_append_left (by have := List.getElem?_eq_some_iff.mp h; exact this.1)]; exact h, fun _ _ h => SqT.fresh hp h⟩
theorem RC.keep {c : Cell} {a : Addr} (x : Ext K φ H φ' H') (e : ∀ o, H a = some o → (c.mut = false → ∃ u xs, o = .frz u xs) → H' a = some o) (h : RC K H φ c a) : RC K H' φ' c a := by
  cases c with
  | lst ds => obtain ⟨xs, q, r⟩ := h; exact ⟨xs, e _ q (fun z => by cases z), r.mono x⟩
  | rol ds =>
    obtain ⟨xs, q, r⟩ := h
    refine ⟨xs, ?_, r.mono x⟩
    rcases q with ⟨o, q⟩ | q
    · exact .inl ⟨o, e _ q fun _ => ⟨o, _, rfl⟩⟩
    · exact .inr q
  | dct ds => obtain ⟨xs, q, r⟩ := h; exact ⟨xs, e _ q (fun z => by cases z), r.mono x⟩
theorem RS.at {S : Store} (r : RS K H φ S) {n : Nat} {c : Cell} (e : S[n]? = some c) : ∃ a, φ[n]? = some a ∧ RC K H φ c a := by
  have hn : n < φ.length := by rw [r.len]; exact (List.getElem?_eq_some_iff.mp e).1
  exact ⟨φ[n], List.getElem?_eq_getElem hn, r.cell n c _ e (List.getElem?_eq_getElem hn)⟩
/-- a tuple is made -/
theorem RS.new {S : Store} (r : RS K H φ S) {p : Addr} {o : HO} (hp : H p = none) : RS K (upd H p o) φ S :=
  ⟨r.len, r.nd, fun n c a h1 h2 => (r.cell n c a h1 h2).keep (Ext.new hp) fun u hu _ => by rw [upd_ne (ne_of_none hu hp)]; exact hu⟩
/-- a cell is made -/
theorem RS.newC {S : Store} (r : RS K H φ S) {p : Addr} {o : HO} {c : Cell} (hp : H p = none) (hc : RC K (upd H p o) (φ ++ [p]) c p) : RS K (upd H p o) (φ ++ [p]) (S ++ [c]) := by
  have old : ∀ (n : Nat) (c' : Cell) (a : Addr), (S ++ [c])[n]? = some c' → (φ ++ [p])[n]? = some a → (S[n]? = some c' ∧ φ[n]? = some a) ∨ (n = S.length ∧ c' = c ∧ a = p) := fun n c' a h1 h2 => by
    by_cases hn : n < S.length
    · rw [List.getElem?_append_left hn] at h1
      rw [List.getElem?_append_left (by rw [r.len]; exact hn)] at h2
      exact .inl ⟨h1, h2⟩
    · have hn2 : n = S.length := by
        have := (List.getElem?_eq_some_iff.mp h1).1
        rw [List.length_append] at this
        have h3 : ([c] : List Cell).length = 1 := rfl
        omega
      subst hn2
      rw [List.getElem?_append_right (Nat.le_refl _), Nat.sub_self] at h1
      rw [← r.len, List.getElem?_append_right (Nat.le_refl _), Nat.sub_self] at h2
      exact .inr ⟨rfl, by simpa using h1.symm, by simpa using h2.symm⟩
  refine ⟨by rw [List.length_append, List.length_append, r.len]; rfl, fun m n a c1 c2 h1 h2 h3 h4 m1 m2 => ?_, fun n c' a h1 h2 => ?_⟩
  · rcases old m c1 a h1 h3 with ⟨q1, q3⟩ | ⟨q1, q2, q3⟩
    · rcases old n c2 a h2 h4 with ⟨w1, w3⟩ | ⟨w1, w2, w3⟩
      · exact r.nd m n a c1 c2 q1 w1 q3 w3 m1 m2
      · subst w3; exact ((r.cell m c1 a q1 q3).tracked m1 hp).elim
    · rcases old n c2 a h2 h4 with ⟨w1, w3⟩ | ⟨w1, w2, w3⟩
      · subst q3; exact ((r.cell n c2 a w1 w3).tracked m2 hp).elim
      · rw [q1, w1]
  · rcases old n c' a h1 h2 with ⟨q1, q2⟩ | ⟨q1, q2, q3⟩
    · exact (r.cell n c' a q1 q2).keep (Ext.newC hp) fun u hu _ => by rw [upd_ne (ne_of_none hu hp)]; exact hu
    · subst q2 q3; exact hc
/-- a cell is changed -/
theorem RS.writeG {S : Store} (r : RS K H φ S) {n : Nat} {a : Addr} {u o : HO} {c0 c' : Cell} (h0 : S[n]? = some c0) (hm0 : c0.mut = true) (hm' : c'.mut = true) (hn : φ[n]? = some a) (ha : H a = some u) (hu : NoTup u) (hc : RC K (upd H a o) φ c' a) :
    RS K (upd H a o) φ (S.set n c') ∧ Ext K φ H φ (upd H a o) := by
  have x : Ext K φ H φ (upd H a o) := ⟨fun _ _ h => h, fun _ _ h => SqT.write ha hu h⟩
  have hl : n < S.length := (List.getElem?_eq_some_iff.mp h0).1
  have back : ∀ (m : Nat) (c : Cell), (S.set n c')[m]? = some c → ∃ d, S[m]? = some d ∧ (m ≠ n → d = c) ∧ (m = n → c = c') ∧ (c.mut = true → d.mut = true) := fun m c h => by
    by_cases hm : n = m
    · subst hm
      rw [List.getElem?_set_self hl] at h
      cases h
      exact ⟨c0, h0, fun z => (z rfl).elim, fun _ => rfl, fun _ => hm0⟩
    · rw [List.getElem?_set_ne hm] at h
      exact ⟨c, h, fun _ => rfl, fun z => (hm z.symm).elim, fun z => z⟩
  refine ⟨⟨by rw [r.len, List.length_set], fun m1 m2 b c1 c2 h1 h2 h3 h4 q1 q2 => ?_, fun m c b h1 h2 => ?_⟩, x⟩
  · obtain ⟨d1, e1, _, _, f1⟩ := back m1 c1 h1
    obtain ⟨d2, e2, _, _, f2⟩ := back m2 c2 h2
    exact r.nd m1 m2 b d1 d2 e1 e2 h3 h4 (f1 q1) (f2 q2)
  · obtain ⟨d, e, f1, f2, _⟩ := back m c h1
    by_cases hm : m = n
    · have := f2 hm
      subst this hm
      rw [hn] at h2; cases h2
      exact hc
    · have := f1 hm
      subst this
      refine (r.cell m d b e h2).keep x fun v hv hz => ?_
      rw [upd_ne (fun z => ?_)]
      · exact hv
      · subst z
        cases hd : d.mut with
        | true => exact hm (r.nd m n b d c0 e h0 h2 hn hd hm0)
        | false =>
          obtain ⟨w, xs, rfl⟩ := hz hd
          rw [ha] at hv; cases hv
          exact hu.2 _ _ rfl
theorem RS.write {S : Store} (r : RS K H φ S) {n : Nat} {a : Addr} {xs : List V} {es : List D} {ys : List V} {ds : List D} (h0 : S[n]? = some (.lst ds)) (hn : φ[n]? = some a) (ha : H a = some (.lst xs)) (he : RDs K H φ es ys) :
    RS K (upd H a (.lst ys)) φ (S.set n (.lst es)) ∧ Ext K φ H φ (upd H a (.lst ys)) :=
  r.writeG h0 rfl rfl hn ha NoTup.lst ⟨ys, upd_same, he.mono ⟨fun _ _ h => h, fun _ _ h => SqT.write ha NoTup.lst h⟩⟩
end
end RL

namespace RL
open PySem PySem.Spec PyProof.Rows L2

/-! ### what a run gives, and what is wanted of it -/
def LK {α : Type} (X : Cx) (W : WX) (σ : L2.St) (φ : List Addr) (H : Hp) (r : Res α) (P : α → Store → List Addr → Hp → Prop) : Prop :=
  match r with
  | .ok a S' => ∀ φ' H', Ext X.K φ H φ' H' → RS X.K H' φ' S' → P a S' φ' H'
  | .exn x S' => ∀ φ' H' cls dd, Ext X.K φ H φ' H' → RS X.K H' φ' S' → RX X.K H' φ' X.mg x cls dd → W cls dd σ H'
  | .bad => False
def LE (X : Cx) (W : WX) (m : ME) : TE := fun σ H Q => ∃ φ ρ S, RE X.K H φ ρ σ ∧ RS X.K H φ S ∧ LK X W σ φ H (m ρ S) fun d _ φ' H' => ∀ v, RD X.K H' φ' d v → Q v H'
def LT (X : Cx) (W : WX) (m : MT) : TT := fun σ H Q => ∃ φ ρ S, RE X.K H φ ρ σ ∧ RS X.K H φ S ∧ LK X W σ φ H (m ρ S) fun b _ _ H' => Q b H'
def LA (X : Cx) (W : WX) (m : MA) : TA := fun σ H Q => ∃ φ ρ S, RE X.K H φ ρ σ ∧ RS X.K H φ S ∧ LK X W σ φ H (m ρ S) fun ds _ φ' H' => ∀ vs, RDs X.K H' φ' ds vs → Q vs H'
def LKS (X : Cx) (W : WX) (φ : List Addr) (H : Hp) (r : SRes) (D : Ends) : Prop :=
  match r with
  | .next ρ' S' => ∀ φ' H' σ', Ext X.K φ H φ' H' → RS X.K H' φ' S' → RE X.K H' φ' ρ' σ' → D.nx σ' H'
  | .brk ρ' S' => ∀ φ' H' σ', Ext X.K φ H φ' H' → RS X.K H' φ' S' → RE X.K H' φ' ρ' σ' → D.bk σ' H'
  | .cont ρ' S' => ∀ φ' H' σ', Ext X.K φ H φ' H' → RS X.K H' φ' S' → RE X.K H' φ' ρ' σ' → D.ct σ' H'
  | .ret d S' => ∀ φ' H' v, Ext X.K φ H φ' H' → RS X.K H' φ' S' → RD X.K H' φ' d v → D.rt v H'
  | .exn x ρ' S' => ∀ φ' H' σ' cls dd, Ext X.K φ H φ' H' → RS X.K H' φ' S' → RE X.K H' φ' ρ' σ' → RX X.K H' φ' X.mg x cls dd → W cls dd σ' H'
  | .bad => False
def LS (X : Cx) (W : WX) (m : MS) : TS := fun D σ H => ∃ φ ρ S, RE X.K H φ ρ σ ∧ RS X.K H φ S ∧ LKS X W φ H (m ρ S) D
/-- the judgements -/
abbrev SE (X : Cx) (W : WX) (e : Expr) (m : ME) : Prop := PE X e (LE X W m)
abbrev ST (X : Cx) (W : WX) (e : Expr) (m : MT) : Prop := PT X e (LT X W m)
abbrev SW (X : Cx) (W : WX) (e : Expr) (m : MT) : Prop := PW X e (LT X W m)
abbrev SA (X : Cx) (W : WX) (es : List Expr) (m : MA) : Prop := PA X es (LA X W m)
abbrev SS (X : Cx) (W : WX) (st : Stmt) (m : MS) : Prop := PS X st (LS X W m)
abbrev SSs (X : Cx) (W : WX) (st : List Stmt) (m : MS) : Prop := PSs X st (LS X W m)
/-- what the rules lean on -/
structure Ctx (X : Cx) (W : WX) (k : Nat) : Prop where
  hr : Room k X.A
  tk : Takes X W
  calm : X.calm = true
  nd : X.N.Nodup
  gu : X.A.guards = some []
  po : PassesOwn (model X.prog X.w) X.A X.env X.xe
theorem _root_.L2.PE.imp {X : Cx} {e : Expr} {t t' : TE} (h : PE X e t) (i : ∀ σ H Q, t' σ H Q → t σ H Q) : PE X e t' := ⟨fun pins s σ H Q I q => h.run pins s σ H Q I (i σ H Q q)⟩
theorem _root_.L2.PT.imp {X : Cx} {e : Expr} {t t' : TT} (h : PT X e t) (i : ∀ σ H Q, t' σ H Q → t σ H Q) : PT X e t' := ⟨fun pins s σ H Q I q => h.run pins s σ H Q I (i σ H Q q)⟩
theorem _root_.L2.PW.imp {X : Cx} {e : Expr} {t t' : TT} (h : PW X e t) (i : ∀ σ H Q, t' σ H Q → t σ H Q) : PW X e t' := ⟨fun wh pins s σ H Q I q => h.run wh pins s σ H Q I (i σ H Q q)⟩
theorem _root_.L2.PA.imp {X : Cx} {e : List Expr} {t t' : TA} (h : PA X e t) (i : ∀ σ H Q, t' σ H Q → t σ H Q) : PA X e t' := ⟨fun pos pins s σ H Q I q => h.run pos pins s σ H Q I (i σ H Q q)⟩
theorem _root_.L2.PS.imp {X : Cx} {e : Stmt} {t t' : TS} (h : PS X e t) (i : ∀ D σ H, t' D σ H → t D σ H) : PS X e t' := ⟨fun pins s σ H D I q => h.run pins s σ H D I (i D σ H q)⟩
theorem _root_.L2.PSs.imp {X : Cx} {e : List Stmt} {t t' : TS} (h : PSs X e t) (i : ∀ D σ H, t' D σ H → t D σ H) : PSs X e t' := ⟨fun pins s σ H D I q => h.run pins s σ H D I (i D σ H q)⟩

section
variable {X : Cx} {W : WX} {σ : L2.St} {φ φ' : List Addr} {H H' : Hp} {α β : Type}
theorem LK.from {r : Res α} {P : α → Store → List Addr → Hp → Prop} (x : Ext X.K φ H φ' H') (h : LK X W σ φ H r P) : LK X W σ φ' H' r P := by
  cases r with
  | ok a S => exact fun φ2 H2 y => h φ2 H2 (x.trans y)
  | exn e S => exact fun φ2 H2 c d y => h φ2 H2 c d (x.trans y)
  | bad => exact h
theorem LK.mono {r : Res α} {P P' : α → Store → List Addr → Hp → Prop} (h : LK X W σ φ H r P) (i : ∀ a S φ' H', Ext X.K φ H φ' H' → RS X.K H' φ' S → P a S φ' H' → P' a S φ' H') : LK X W σ φ H r P' := by
  cases r with
  | ok a S => exact fun φ2 H2 y z => i a S φ2 H2 y z (h φ2 H2 y z)
  | exn e S => exact h
  | bad => exact h
theorem LK.bind {r : Res α} {f : α → Store → Res β} {P : β → Store → List Addr → Hp → Prop} (h : LK X W σ φ H (r.bind f) P) :
    LK X W σ φ H r fun a S φ' H' => LK X W σ φ' H' (f a S) P := by
  cases r with
  | ok a S => exact fun φ2 H2 y z => LK.from y h
  | exn e S => exact h
  | bad => exact h
theorem LKS.from {r : SRes} {D : Ends} (x : Ext X.K φ H φ' H') (h : LKS X W φ H r D) : LKS X W φ' H' r D := by
  cases r with
  | next a S => exact fun φ2 H2 s y => h φ2 H2 s (x.trans y)
  | brk a S => exact fun φ2 H2 s y => h φ2 H2 s (x.trans y)
  | cont a S => exact fun φ2 H2 s y => h φ2 H2 s (x.trans y)
  | ret a S => exact fun φ2 H2 s y => h φ2 H2 s (x.trans y)
  | exn a b S => exact fun φ2 H2 s c d y => h φ2 H2 s c d (x.trans y)
  | bad => exact h
/-- run an expression, go on with the rest -/
theorem LE.to {ρ : Env} {S : Store} {ma : ME} {f : D → Store → Res β} {P : β → Store → List Addr → Hp → Prop} {Q : VK} (re : RE X.K H φ ρ σ) (rs : RS X.K H φ S) (h : LK X W σ φ H ((ma ρ S).bind f) P)
    (q : ∀ d S1 φ1 H1 v, Ext X.K φ H φ1 H1 → RS X.K H1 φ1 S1 → RE X.K H1 φ1 ρ σ → RD X.K H1 φ1 d v → LK X W σ φ1 H1 (f d S1) P → Q v H1) : LE X W ma σ H Q :=
  ⟨φ, ρ, S, re, rs, (LK.bind h).mono fun d S1 φ1 H1 x z k v rd => q d S1 φ1 H1 v x z (re.mono x) rd k⟩
theorem LT.to {ρ : Env} {S : Store} {ma : MT} {f : Bool → Store → Res β} {P : β → Store → List Addr → Hp → Prop} {Q : Bool → Hp → Prop} (re : RE X.K H φ ρ σ) (rs : RS X.K H φ S) (h : LK X W σ φ H ((ma ρ S).bind f) P)
    (q : ∀ d S1 φ1 H1, Ext X.K φ H φ1 H1 → RS X.K H1 φ1 S1 → RE X.K H1 φ1 ρ σ → LK X W σ φ1 H1 (f d S1) P → Q d H1) : LT X W ma σ H Q :=
  ⟨φ, ρ, S, re, rs, (LK.bind h).mono fun d S1 φ1 H1 x z k => q d S1 φ1 H1 x z (re.mono x) k⟩
theorem LA.to {ρ : Env} {S : Store} {ma : MA} {f : List D → Store → Res β} {P : β → Store → List Addr → Hp → Prop} {Q : List V → Hp → Prop} (re : RE X.K H φ ρ σ) (rs : RS X.K H φ S) (h : LK X W σ φ H ((ma ρ S).bind f) P)
    (q : ∀ d S1 φ1 H1 v, Ext X.K φ H φ1 H1 → RS X.K H1 φ1 S1 → RE X.K H1 φ1 ρ σ → RDs X.K H1 φ1 d v → LK X W σ φ1 H1 (f d S1) P → Q v H1) : LA X W ma σ H Q :=
  ⟨φ, ρ, S, re, rs, (LK.bind h).mono fun d S1 φ1 H1 x z k v rd => q d S1 φ1 H1 v x z (re.mono x) rd k⟩
theorem LK.ok {a : α} {S : Store} {P : α → Store → List Addr → Hp → Prop} (h : LK X W σ φ H (.ok a S) P) (rs : RS X.K H φ S) : P a S φ H := h φ H Ext.refl rs
end

/-! ### names, constants -/
def eVar (i : Nat) : ME := fun ρ S => match ρ[i]? with
  | some (some d) => .ok d S
  | _ => .bad
def eC (d : D) : ME := fun _ S => .ok d S
section
variable {X : Cx} {W : WX} {a b c : Expr} {pos p : Pos} {ma mb mc : ME} {k : Nat}
theorem se_var (i : Nat) {x : Str} (hN : X.N[i]? = some x := by rfl) (hv : Vis X.env.scope x := by first | exact Or.inl rfl | exact Or.inr (Or.inl rfl) | exact Or.inr (Or.inr rfl)) (hd : (x == ("__debug__" : Str)) = false := by decide)
    (hcd : (x == ("__classdict__" : Str)) = false := by decide) : SE X W (.Name x pos) (eVar i) := by
  refine (pe_var hN hv hd hcd).imp fun σ H Q => ?_
  rintro ⟨φ, ρ, S, re, rs, h⟩
  unfold eVar at h
  split at h
  · rename_i d e
    obtain ⟨v, h1, h2⟩ := re.get e
    exact ⟨v, h1, h.ok rs v h2⟩
  · exact h.elim
theorem se_c {v : V} {d : D} (h : PE X a (tC v)) (r : ∀ K H φ, RD K H φ d v := by intro _ _ _; unfold RD; rfl) : SE X W a (eC d) := by
  refine h.imp fun σ H Q => ?_
  rintro ⟨φ, ρ, S, re, rs, h⟩
  exact h.ok rs v (r _ _ _)
theorem se_int {i : Int} {j} : SE X W (.Constant (.int i) j pos) (eC (.int i)) := se_c pe_int
theorem se_bl {i : Bool} {j} : SE X W (.Constant (.bool i) j pos) (eC (.bl i)) := se_c pe_bl
theorem se_non {j} : SE X W (.Constant .none j pos) (eC .non) := se_c pe_non
theorem se_str {i : Str} {j} : SE X W (.Constant (.str i) j pos) (eC (.str i)) := se_c pe_str

/-! ### operators -/
def eBin (f : D → D → Store → Res D) (ma mb : ME) : ME := fun ρ S => (ma ρ S).bind fun x S1 => (mb ρ S1).bind fun y S2 => f x y S2
/-- an abstract operator is what the rule's reading asks -/
def OpD (X : Cx) (r : R2) (f : D → D → Store → Res D) : Prop := ∀ (W : WX) (σ : L2.St) (φ : List Addr) (H : Hp) (S : Store) (x y : D) (vx vy : V) (Q : VK), RS X.K H φ S → RD X.K H φ x vx → RD X.K H φ y vy →
  LK X W σ φ H (f x y S) (fun d _ φ' H' => ∀ v, RD X.K H' φ' d v → Q v H') → r vx vy H Q
theorem eBin.to {r : R2} {f : D → D → Store → Res D} (hd : OpD X r f) {σ : L2.St} {H : Hp} {Q : VK} (h : LE X W (eBin f ma mb) σ H Q) : tOp r (LE X W ma) (LE X W mb) σ H Q := by
  obtain ⟨φ, ρ, S, re, rs, h⟩ := h
  exact LE.to re rs h fun x S1 φ1 H1 vx x1 rs1 re1 rx h1 => LE.to re1 rs1 h1 fun y S2 φ2 H2 vy x2 rs2 re2 ry h2 => hd W σ φ2 H2 S2 x y vx vy Q rs2 (rx.mono x2) ry h2
theorem se_op {op : Operator} {r : R2} {f : D → D → Store → Res D} (ho : OpR X (binaryOp op) r) (hd : OpD X r f) (ha : SE X W a ma) (hb : SE X W b mb) : SE X W (.BinOp a op b pos) (eBin f ma mb) :=
  (pe_op ho ha hb).imp fun _ _ _ h => eBin.to hd h
theorem se_cmp {op : CmpOp} {r : R2} {f : D → D → Store → Res D} (ho : OpR X (compareOp op) r) (hd : OpD X r f) (ha : SE X W a ma) (hb : SE X W b mb) (hm : behindInMarks op b = false := by rfl) : SE X W (.Compare a [op] [b] pos) (eBin f ma mb) :=
  (pe_cmpR ho ha hb hm).imp fun _ _ _ h => eBin.to hd h
/-- a test: a value that is a bool -/
def tOf (m : ME) : MT := fun ρ S => (m ρ S).bind fun x S1 => match x with
  | .bl c => .ok c S1
  | _ => .bad
theorem st_cmp {op : CmpOp} {r : R2} {f : D → D → Store → Res D} (ho : OpR X (compareOp op) r) (hd : OpD X r f) (ha : SE X W a ma) (hb : SE X W b mb) (hm : behindInMarks op b = false := by rfl) : ST X W (.Compare a [op] [b] pos) (tOf (eBin f ma mb)) := by
  refine (pt_cmpR ho ha hb hm).imp fun σ H Q h => ?_
  obtain ⟨φ, ρ, S, re, rs, h⟩ := h
  refine eBin.to hd ⟨φ, ρ, S, re, rs, (LK.bind h).mono fun d S1 φ1 H1 x1 rs1 k v rd => ?_⟩
  split at k
  · unfold RD at rd
    exact ⟨_, rd, k.ok rs1⟩
  · exact k.elim
/-- any value as a test that is a bool -/
theorem st_val (ha : SE X W a ma) (he : ∀ whole, isTrue a X.env whole = (do let v ← whole; standAt a.pos; holding [v] (truthy v)) := by intro _; rfl) : ST X W a (tOf ma) := by
  refine (pt_val ha he).imp fun σ H Q h => ?_
  obtain ⟨φ, ρ, S, re, rs, h⟩ := h
  refine LE.to re rs h fun d S1 φ1 H1 v x1 rs1 re1 rd k => ?_
  split at k
  · unfold RD at rd
    exact ⟨_, rd, k.ok rs1⟩
  · exact k.elim
def tNotM (m : MT) : MT := fun ρ S => (m ρ S).bind fun c S1 => .ok (!c) S1
theorem st_not {m : MT} (ha : ST X W a m) : ST X W (.UnaryOp .Not a pos) (tNotM m) := by
  refine (pt_not ha).imp fun σ H Q h => ?_
  obtain ⟨φ, ρ, S, re, rs, h⟩ := h
  exact LT.to re rs h fun d S1 φ1 H1 x1 rs1 re1 k => k.ok rs1
def tAndM (m n : MT) : MT := fun ρ S => (m ρ S).bind fun c S1 => if c then n ρ S1 else .ok false S1
def tOrM (m n : MT) : MT := fun ρ S => (m ρ S).bind fun c S1 => if c then .ok true S1 else n ρ S1
section
variable {rest : List Expr} {m n : MT}
theorem LT.go {ρ : Env} {S : Store} {σ : L2.St} {φ : List Addr} {H : Hp} {m : MT} {Q : Bool → Hp → Prop} (re : RE X.K H φ ρ σ) (rs : RS X.K H φ S) (h : LK X W σ φ H (m ρ S) fun b _ _ H' => Q b H') : LT X W m σ H Q := ⟨φ, ρ, S, re, rs, h⟩
theorem sw_and1 (ha : ST X W a m) : SW X W (.BoolOp .And [a] pos) m := pw_and1 ha
theorem sw_or1 (ha : ST X W a m) : SW X W (.BoolOp .Or [a] pos) m := pw_or1 ha
theorem sw_and (ha : ST X W a m) (hb : SW X W (.BoolOp .And (b :: rest) pos) n) : SW X W (.BoolOp .And (a :: b :: rest) pos) (tAndM m n) := by
  refine (pw_and ha hb).imp fun σ H Q h => ?_
  obtain ⟨φ, ρ, S, re, rs, h⟩ := h
  refine LT.to re rs h fun d S1 φ1 H1 x1 rs1 re1 k => ?_
  cases d with
  | true => exact iteT (LT.go re1 rs1 k)
  | false => exact iteF (k.ok rs1)
theorem sw_or (ha : ST X W a m) (hb : SW X W (.BoolOp .Or (b :: rest) pos) n) : SW X W (.BoolOp .Or (a :: b :: rest) pos) (tOrM m n) := by
  refine (pw_or ha hb).imp fun σ H Q h => ?_
  obtain ⟨φ, ρ, S, re, rs, h⟩ := h
  refine LT.to re rs h fun d S1 φ1 H1 x1 rs1 re1 k => ?_
  cases d with
  | true => exact iteT (k.ok rs1)
  | false => exact iteF (LT.go re1 rs1 k)
theorem st_w (h : SW X W a m) : ST X W a m := h.pt
end
/-- and, or, not as values: bools -/
def eAndV (ma mb : ME) : ME := fun ρ S => (ma ρ S).bind fun x S1 => match x with
  | .bl true => mb ρ S1
  | .bl false => .ok (.bl false) S1
  | _ => .bad
def eOrV (ma mb : ME) : ME := fun ρ S => (ma ρ S).bind fun x S1 => match x with
  | .bl false => mb ρ S1
  | .bl true => .ok (.bl true) S1
  | _ => .bad
def eNotV (ma : ME) : ME := fun ρ S => (ma ρ S).bind fun x S1 => match x with
  | .bl c => .ok (.bl (!c)) S1
  | _ => .bad
theorem rd_bl {K : PySem.W.Frag} {H : Hp} {φ : List Addr} {b : Bool} : RD K H φ (.bl b) (.bl b) := by unfold RD; rfl
theorem rd_int {K : PySem.W.Frag} {H : Hp} {φ : List Addr} {b : Int} : RD K H φ (.int b) (.int b) := by unfold RD; rfl
theorem rd_str {K : PySem.W.Frag} {H : Hp} {φ : List Addr} {b : Str} : RD K H φ (.str b) (.str b) := by unfold RD; rfl
theorem rd_non {K : PySem.W.Frag} {H : Hp} {φ : List Addr} : RD K H φ .non .non := by unfold RD; rfl
section
variable {rest : List Expr}
theorem LE.go {ρ : Env} {S : Store} {σ : L2.St} {φ : List Addr} {H : Hp} {m : ME} {Q : VK} (re : RE X.K H φ ρ σ) (rs : RS X.K H φ S) (h : LK X W σ φ H (m ρ S) fun d _ φ' H' => ∀ v, RD X.K H' φ' d v → Q v H') : LE X W m σ H Q := ⟨φ, ρ, S, re, rs, h⟩
theorem se_one {op} (h : SE X W a ma) : SE X W (.BoolOp op [a] pos) ma := pe_one h
theorem se_and (ha : SE X W a ma) (hb : SE X W (.BoolOp .And (b :: rest) pos) mb) : SE X W (.BoolOp .And (a :: b :: rest) pos) (eAndV ma mb) := by
  refine (pe_and ha hb).imp fun σ H Q h => ?_
  obtain ⟨φ, ρ, S, re, rs, h⟩ := h
  refine LE.to re rs h fun d S1 φ1 H1 v x1 rs1 re1 rd k => ?_
  split at k
  · unfold RD at rd; exact ⟨true, rd, iteT (LE.go re1 rs1 k)⟩
  · unfold RD at rd; exact ⟨false, rd, iteF (k.ok rs1 _ rd_bl)⟩
  · exact k.elim
theorem se_or (ha : SE X W a ma) (hb : SE X W (.BoolOp .Or (b :: rest) pos) mb) : SE X W (.BoolOp .Or (a :: b :: rest) pos) (eOrV ma mb) := by
  refine (pe_or ha hb).imp fun σ H Q h => ?_
  obtain ⟨φ, ρ, S, re, rs, h⟩ := h
  refine LE.to re rs h fun d S1 φ1 H1 v x1 rs1 re1 rd k => ?_
  split at k
  · unfold RD at rd; exact ⟨false, rd, iteF (LE.go re1 rs1 k)⟩
  · unfold RD at rd; exact ⟨true, rd, iteT (k.ok rs1 _ rd_bl)⟩
  · exact k.elim
theorem se_not (ha : SE X W a ma) : SE X W (.UnaryOp .Not a pos) (eNotV ma) := by
  refine (pe_not ha).imp fun σ H Q h => ?_
  obtain ⟨φ, ρ, S, re, rs, h⟩ := h
  refine LE.to re rs h fun d S1 φ1 H1 v x1 rs1 re1 rd k => ?_
  split at k
  · unfold RD at rd; exact ⟨_, rd, k.ok rs1 _ rd_bl⟩
  · exact k.elim
end
def eIf (t : MT) (ma mb : ME) : ME := fun ρ S => (t ρ S).bind fun c S1 => if c then ma ρ S1 else mb ρ S1
theorem se_if {m : MT} (hc : ST X W c m) (ha : SE X W a ma) (hb : SE X W b mb) : SE X W (.IfExp c a b pos) (eIf m ma mb) := by
  refine (pe_ifExp hc ha hb).imp fun σ H Q h => ?_
  obtain ⟨φ, ρ, S, re, rs, h⟩ := h
  refine LT.to re rs h fun d S1 φ1 H1 x1 rs1 re1 k => ?_
  cases d with
  | true => exact iteT (LE.go re1 rs1 k)
  | false => exact iteF (LE.go re1 rs1 k)
def eChain (f g : D → D → Store → Res D) (ma mb mc : ME) : ME := fun ρ S => (ma ρ S).bind fun x S1 => (mb ρ S1).bind fun y S2 => (f x y S2).bind fun z S3 => match z with
  | .bl true => (mc ρ S3).bind fun w S4 => g y w S4
  | .bl false => .ok (.bl false) S3
  | _ => .bad
theorem se_chain {op op' : CmpOp} {r r' : R2} {f g : D → D → Store → Res D} (ho : OpR X (compareOp op) r) (hd : OpD X r f) (ho' : OpR X (compareOp op') r') (hd' : OpD X r' g) (ha : SE X W a ma) (hb : SE X W b mb) (hc : SE X W c mc)
    (hm : lastMarks [op, op'] [b, c] = false := by with_unfolding_all rfl) : SE X W (.Compare a [op, op'] [b, c] pos) (eChain f g ma mb mc) := by
  refine (pe_chain ho ho' ha hb hc hm).imp fun σ H Q h => ?_
  obtain ⟨φ, ρ, S, re, rs, h⟩ := h
  refine LE.to re rs h fun x S1 φ1 H1 vx x1 rs1 re1 rx h1 => LE.to re1 rs1 h1 fun y S2 φ2 H2 vy x2 rs2 re2 ry h2 => ?_
  refine hd W σ φ2 H2 S2 x y vx vy _ rs2 (rx.mono x2) ry ((LK.bind h2).mono fun z S3 φ3 H3 x3 rs3 k v rd => ?_)
  split at k
  · unfold RD at rd
    exact ⟨true, rd, iteT (LE.to (re2.mono x3) rs3 k fun w S4 φ4 H4 vw x4 rs4 re4 rw k4 => hd' W σ φ4 H4 S4 y w vy vw Q rs4 ((ry.mono x3).mono x4) rw k4)⟩
  · unfold RD at rd; exact ⟨false, rd, iteF (k.ok rs3 _ rd_bl)⟩
  · exact k.elim
end
end RL

namespace RL
open PySem PySem.Spec PyProof.Rows L2

/-! ### data, deep -/
def mapO {α β : Type} (f : α → Option β) : List α → Option (List β)
  | [] => some []
  | x :: xs => match f x, mapO f xs with
    | some y, some ys => some (y :: ys)
    | _, _ => none
def keyP : L2.Key → PyData
  | .inl i => .int i
  | .inr s => .str s
/-- what a value shows: all within it, to a depth -/
def deep (S : Store) : Nat → D → Option PyData
  | 0, _ => none
  | _ + 1, .non => some .none
  | _ + 1, .bl b => some (.bool b)
  | _ + 1, .int i => some (.int i)
  | _ + 1, .str s => some (.str s)
  | k + 1, .tup ds => (mapO (deep S k) ds).map PyData.tuple
  | k + 1, .ptr n => match S[n]? with
    | some (.lst ds) => (mapO (deep S k) ds).map PyData.list
    | some (.rol ds) => (mapO (deep S k) ds).map PyData.list
    | some (.dct kvs) => (mapO (fun kv => (deep S k kv.2).map fun v => (keyP kv.1, v)) kvs).map PyData.dict
    | none => none
section
variable {K : PySem.W.Frag} {H : Hp} {φ : List Addr} {S : Store}
theorem RS.seqL (rs : RS K H φ S) {n : Nat} {ds : List D} (h : S[n]? = some (.lst ds) ∨ S[n]? = some (.rol ds)) : ∃ a xs, φ[n]? = some a ∧ SqL K H a xs ∧ RDs K H φ ds xs := by
  rcases h with h | h
  · obtain ⟨a, h1, xs, h2, h3⟩ := rs.at h
    exact ⟨a, xs, h1, .inl (.inl h2), h3⟩
  · obtain ⟨a, h1, xs, h2, h3⟩ := rs.at h
    rcases h2 with ⟨o, h2⟩ | h2
    · exact ⟨a, xs, h1, .inl (.inr ⟨o, h2⟩), h3⟩
    · exact ⟨a, xs, h1, .inr h2, h3⟩
theorem mapO_cons {α β : Type} {f : α → Option β} {x : α} {xs : List α} {zs : List β} (h : mapO f (x :: xs) = some zs) : ∃ y ys, f x = some y ∧ mapO f xs = some ys ∧ zs = y :: ys := by
  unfold mapO at h
  split at h
  · rename_i y ys h1 h2
    exact ⟨y, ys, h1, h2, (Option.some.inj h).symm⟩
  · cases h
theorem deep_dpAll (k : Nat) (ih : ∀ d v p, RD K H φ d v → deep S k d = some p → p.canLay0 = true → Dp K H v p) :
    ∀ (ds : List D) (vs : List V) (ps : List PyData), RDs K H φ ds vs → mapO (deep S k) ds = some ps → PyData.canLayAll0 ps = true → DpAll K H vs ps
  | [], vs, ps, r, e, c => by
    unfold RDs at r; unfold mapO at e
    cases e; subst r
    exact DpAll.nil
  | d :: ds, vs, ps, r, e, c => by
    unfold RDs at r
    obtain ⟨v, vs', rfl, r1, r2⟩ := r
    obtain ⟨y, ys, h1, h2, rfl⟩ := mapO_cons e
    unfold PyData.canLayAll0 at c
    simp only [Bool.and_eq_true] at c
    exact DpAll.cons (ih _ _ _ r1 h1 c.1) (deep_dpAll k ih ds vs' ys r2 h2 c.2)
theorem deep_dp (rs : RS K H φ S) : ∀ (k : Nat) (d : D) (v : V) (p : PyData), RD K H φ d v → deep S k d = some p → p.canLay0 = true → Dp K H v p
  | 0, _, _, _, _, e, _ => by unfold deep at e; cases e
  | k + 1, .non, v, p, r, e, c => by unfold deep at e; unfold RD at r; cases e; subst r; exact Dp.non
  | k + 1, .bl b, v, p, r, e, c => by unfold deep at e; unfold RD at r; cases e; subst r; exact Dp.bl b
  | k + 1, .int i, v, p, r, e, c => by unfold deep at e; unfold RD at r; cases e; subst r; exact Dp.int i
  | k + 1, .str i, v, p, r, e, c => by unfold deep at e; unfold RD at r; cases e; subst r; exact Dp.str i
  | k + 1, .tup ds, v, p, r, e, c => by
    unfold deep at e; unfold RD at r
    obtain ⟨a, xs, rfl, h1, h2⟩ := r
    cases hm : mapO (deep S k) ds with
    | none => rw [hm] at e; cases e
    | some ps =>
      rw [hm] at e; cases e
      exact Dp.tup h1 (deep_dpAll k (deep_dp rs k) ds xs ps h2 hm (by unfold PyData.canLay0 at c; exact c))
  | k + 1, .ptr n, v, p, r, e, c => by
    unfold deep at e; unfold RD at r
    obtain ⟨a, ha, rfl⟩ := r
    split at e
    · rename_i ds hS
      cases hm : mapO (deep S k) ds with
      | none => rw [hm] at e; cases e
      | some ps =>
        rw [hm] at e; cases e
        obtain ⟨a', xs, h0, h1, h2⟩ := rs.seqL (.inl hS)
        rw [ha] at h0; cases h0
        exact Dp.lst h1 (deep_dpAll k (deep_dp rs k) ds xs ps h2 hm (by unfold PyData.canLay0 at c; exact c))
    · rename_i ds hS
      cases hm : mapO (deep S k) ds with
      | none => rw [hm] at e; cases e
      | some ps =>
        rw [hm] at e; cases e
        obtain ⟨a', xs, h0, h1, h2⟩ := rs.seqL (.inr hS)
        rw [ha] at h0; cases h0
        exact Dp.lst h1 (deep_dpAll k (deep_dp rs k) ds xs ps h2 hm (by unfold PyData.canLay0 at c; exact c))
    · rename_i ds hS
      cases hm : mapO (fun kv : L2.Key × D => (deep S k kv.2).map fun v => (keyP kv.1, v)) ds with
      | none => rw [hm] at e; cases e
      | some ps =>
        rw [hm] at e; cases e
        unfold PyData.canLay0 at c; cases c
    · cases e
end

/-! ### operators, by values -/
def oAdd : D → D → Store → Res D
  | .int i, .int j, S => .ok (.int (i + j)) S
  | .str a, .str b, S => if a.length + b.length ≤ sizeLine then .ok (.str (a ++ b)) S else .bad
  | .tup a, .tup b, S => if a.length + b.length ≤ sizeLine then .ok (.tup (a ++ b)) S else .bad
  | .ptr n, .ptr m, S => match S[n]?, S[m]? with
    | some (.lst a), some (.lst b) => if a.length + b.length ≤ sizeLine then .ok (.ptr S.length) (S ++ [.lst (a ++ b)]) else .bad
    | _, _ => .bad
  | _, _, _ => .bad
def oSub : D → D → Store → Res D
  | .int i, .int j, S => .ok (.int (i - j)) S
  | _, _, _ => .bad
def oMul : D → D → Store → Res D
  | .int i, .int j, S => if (Builtin.Int.intBits i : Int) + (Builtin.Int.intBits j : Int) ≤ 134217728 then .ok (.int (i * j)) S else .bad
  | .ptr n, .int k, S => match S[n]? with
    | some (.lst a) => if -(2 ^ 63) ≤ k ∧ k < 2 ^ 63 ∧ a.length * k.toNat ≤ sizeLine then .ok (.ptr S.length) (S ++ [.lst (List.replicate k.toNat a).flatten]) else .bad
    | _ => .bad
  | _, _, _ => .bad
def oMod : D → D → Store → Res D
  | .int i, .int j, S => if 0 < j then .ok (.int (i % j)) S else .bad
  | _, _, _ => .bad
def oDiv : D → D → Store → Res D
  | .int i, .int j, S => if 0 < j ∧ j.natAbs.log2 < 9000 then .ok (.int (i / j)) S else .bad
  | _, _, _ => .bad
def oPow : D → D → Store → Res D
  | .int i, .int j, S => if 0 ≤ j ∧ j ≤ 1000000 ∧ i.natAbs < 2 ^ 64 then .ok (.int (i ^ j.toNat)) S else .bad
  | _, _, _ => .bad
def oLt : D → D → Store → Res D
  | .int i, .int j, S => .ok (.bl (decide (i < j))) S
  | _, _, _ => .bad
def oLe : D → D → Store → Res D
  | .int i, .int j, S => .ok (.bl (decide (i ≤ j))) S
  | _, _, _ => .bad
def oGt : D → D → Store → Res D
  | .int i, .int j, S => .ok (.bl (decide (j < i))) S
  | _, _, _ => .bad
def oGe : D → D → Store → Res D
  | .int i, .int j, S => .ok (.bl (decide (j ≤ i))) S
  | _, _, _ => .bad
def oIs : D → D → Store → Res D
  | .non, .non, S => .ok (.bl true) S
  | _, .non, S => .ok (.bl false) S
  | _, _, _ => .bad
def oIsNot : D → D → Store → Res D
  | .non, .non, S => .ok (.bl false) S
  | _, .non, S => .ok (.bl true) S
  | _, _, _ => .bad
def deepLine : Nat := 40
def oEqD (x y : D) (S : Store) : Res D := match deep S deepLine x, deep S deepLine y with
  | some d, some e => if SeqAt.shaped d = true ∧ SeqAt.shaped e = true then .ok (.bl (PyData.eqv d e)) S else .bad
  | _, _ => .bad
def oNeD (x y : D) (S : Store) : Res D := match deep S deepLine x, deep S deepLine y with
  | some d, some e => if SeqAt.shaped d = true ∧ SeqAt.shaped e = true then .ok (.bl (!PyData.eqv d e)) S else .bad
  | _, _ => .bad
def oEq : D → D → Store → Res D
  | .str a, .str b, S => .ok (.bl (a == b)) S
  | x, y, S => oEqD x y S
def oNe : D → D → Store → Res D
  | .str a, .str b, S => .ok (.bl (!(a == b))) S
  | x, y, S => oNeD x y S
def rEqAll (K : PySem.W.Frag) : R2 := fun x y H Q => rEqD K x y H Q ∨ rEq x y H Q
def rNeAll (K : PySem.W.Frag) : R2 := fun x y H Q => rNeD K x y H Q ∨ rNe x y H Q
theorem op_eqA {X : Cx} (hu : X.A.units + 64 < cLine) : OpR X (compareOp .Eq) (rEqAll X.K) := OpR.or (op_eqD hu) op_eq
theorem op_neA {X : Cx} (hu : X.A.units + 64 < cLine) : OpR X (compareOp .NotEq) (rNeAll X.K) := OpR.or (op_neD hu) op_ne

section
variable {X : Cx}
theorem od_new {K : PySem.W.Frag} {H : Hp} {φ : List Addr} {ds : List D} {xs : List V} {p : Addr} (r : RDs K H φ ds xs) (hp : H p = none) : RD K (upd H p (.tup xs)) φ (.tup ds) (.ref p) := by
  unfold RD
  exact ⟨p, xs, rfl, .inl (.inl upd_same), r.mono (Ext.new hp)⟩
theorem od_newC {K : PySem.W.Frag} {H : Hp} {φ : List Addr} {S : Store} {ds : List D} {xs : List V} {p : Addr} (rs : RS K H φ S) (r : RDs K H φ ds xs) (hp : H p = none) :
    RS K (upd H p (.lst xs)) (φ ++ [p]) (S ++ [.lst ds]) ∧ Ext K φ H (φ ++ [p]) (upd H p (.lst xs)) ∧ RD K (upd H p (.lst xs)) (φ ++ [p]) (.ptr S.length) (.ref p) := by
  refine ⟨rs.newC hp ⟨xs, upd_same, r.mono (Ext.newC hp)⟩, Ext.newC hp, ?_⟩
  unfold RD
  exact ⟨p, by rw [← rs.len, List.getElem?_append_right (Nat.le_refl _), Nat.sub_self]; rfl, rfl⟩
theorem od_I0 {g : Int → Int → V} {f : D → D → Store → Res D} (gd : Int → Int → D) (hg : ∀ i j K H φ, RD K H φ (gd i j) (g i j)) (hf : ∀ i j S, f (.int i) (.int j) S = .ok (gd i j) S) (hb : ∀ x y S, (∀ i j, ¬ (x = .int i ∧ y = .int j)) → f x y S = .bad) : OpD X (rI0 g) f := by
  intro W σ φ H S x y vx vy Q rs rx ry h
  by_cases hc : ∃ i j, x = .int i ∧ y = .int j
  · obtain ⟨i, j, rfl, rfl⟩ := hc
    unfold RD at rx ry
    rw [hf] at h
    exact ⟨i, j, rx, ry, h.ok rs _ (hg _ _ _ _ _)⟩
  · rw [hb x y S (fun i j z => hc ⟨i, j, z⟩)] at h
    exact h.elim
theorem od_lt : OpD X (rI0 fun i j => .bl (decide (i < j))) oLt := od_I0 (fun i j => .bl (decide (i < j))) (fun _ _ _ _ _ => rd_bl) (fun _ _ _ => rfl) fun x y S h => by
  unfold oLt; split
  · exact (h _ _ ⟨rfl, rfl⟩).elim
  · rfl
theorem od_le : OpD X (rI0 fun i j => .bl (decide (i ≤ j))) oLe := od_I0 (fun i j => .bl (decide (i ≤ j))) (fun _ _ _ _ _ => rd_bl) (fun _ _ _ => rfl) fun x y S h => by
  unfold oLe; split
  · exact (h _ _ ⟨rfl, rfl⟩).elim
  · rfl
theorem od_gt : OpD X (rI0 fun i j => .bl (decide (j < i))) oGt := od_I0 (fun i j => .bl (decide (j < i))) (fun _ _ _ _ _ => rd_bl) (fun _ _ _ => rfl) fun x y S h => by
  unfold oGt; split
  · exact (h _ _ ⟨rfl, rfl⟩).elim
  · rfl
theorem od_ge : OpD X (rI0 fun i j => .bl (decide (j ≤ i))) oGe := od_I0 (fun i j => .bl (decide (j ≤ i))) (fun _ _ _ _ _ => rd_bl) (fun _ _ _ => rfl) fun x y S h => by
  unfold oGe; split
  · exact (h _ _ ⟨rfl, rfl⟩).elim
  · rfl
theorem od_sub : OpD X (rI0 fun i j => .int (i - j)) oSub := od_I0 (fun i j => .int (i - j)) (fun _ _ _ _ _ => rd_int) (fun _ _ _ => rfl) fun x y S h => by
  unfold oSub; split
  · exact (h _ _ ⟨rfl, rfl⟩).elim
  · rfl
theorem od_mod : OpD X (rI (fun _ j => 0 < j) fun i j => .int (i % j)) oMod := by
  intro W σ φ H S x y vx vy Q rs rx ry h
  unfold oMod at h
  split at h
  · unfold RD at rx ry
    split at h
    · exact ⟨_, _, rx, ry, by assumption, h.ok rs _ rd_int⟩
    · exact h.elim
  · exact h.elim
theorem od_div : OpD X (rI CDivW fun i j => .int (i / j)) oDiv := by
  intro W σ φ H S x y vx vy Q rs rx ry h
  unfold oDiv at h
  split at h
  · unfold RD at rx ry
    split at h
    · exact ⟨_, _, rx, ry, by assumption, h.ok rs _ rd_int⟩
    · exact h.elim
  · exact h.elim
theorem od_pow : OpD X (rI CPow fun i j => .int (i ^ j.toNat)) oPow := by
  intro W σ φ H S x y vx vy Q rs rx ry h
  unfold oPow at h
  split at h
  · unfold RD at rx ry
    split at h
    · exact ⟨_, _, rx, ry, by assumption, h.ok rs _ rd_int⟩
    · exact h.elim
  · exact h.elim
theorem od_is : OpD X (fun x y H Q => y = .non ∧ Q (.bl (decide (x = .non))) H) oIs := by
  intro W σ φ H S x y vx vy Q rs rx ry h
  unfold oIs at h
  split at h
  · unfold RD at rx ry; subst rx; exact ⟨ry, h.ok rs _ rd_bl⟩
  · rename_i hx
    unfold RD at ry
    refine ⟨ry, ?_⟩
    have e : decide (vx = .non) = false := decide_eq_false fun z => by
      subst z
      cases x <;> unfold RD at rx
      · exact hx rfl
      · cases rx
      · cases rx
      · cases rx
      · obtain ⟨_, _, e, _⟩ := rx; cases e
      · obtain ⟨_, _, e⟩ := rx; cases e
    rw [e]
    exact h.ok rs _ rd_bl
  · exact h.elim
theorem od_isnot : OpD X (fun x y H Q => y = .non ∧ Q (.bl (!decide (x = .non))) H) oIsNot := by
  intro W σ φ H S x y vx vy Q rs rx ry h
  unfold oIsNot at h
  split at h
  · unfold RD at rx ry; subst rx; exact ⟨ry, h.ok rs _ rd_bl⟩
  · rename_i hx
    unfold RD at ry
    refine ⟨ry, ?_⟩
    have e : decide (vx = .non) = false := decide_eq_false fun z => by
      subst z
      cases x <;> unfold RD at rx
      · exact hx rfl
      · cases rx
      · cases rx
      · cases rx
      · obtain ⟨_, _, e, _⟩ := rx; cases e
      · obtain ⟨_, _, e⟩ := rx; cases e
    rw [e]
    exact h.ok rs _ rd_bl
  · exact h.elim
theorem od_eqD : OpD X (rEqD X.K) oEqD := by
  intro W σ φ H S x y vx vy Q rs rx ry h
  unfold oEqD at h
  split at h
  · rename_i d e h1 h2
    split at h
    · rename_i hs
      exact ⟨d, e, deep_dp rs _ _ _ _ rx h1 (SeqAt.canLay_of_shaped hs.1), deep_dp rs _ _ _ _ ry h2 (SeqAt.canLay_of_shaped hs.2), hs.1, hs.2, h.ok rs _ rd_bl⟩
    · exact h.elim
  · exact h.elim
theorem od_neD : OpD X (rNeD X.K) oNeD := by
  intro W σ φ H S x y vx vy Q rs rx ry h
  unfold oNeD at h
  split at h
  · rename_i d e h1 h2
    split at h
    · rename_i hs
      exact ⟨d, e, deep_dp rs _ _ _ _ rx h1 (SeqAt.canLay_of_shaped hs.1), deep_dp rs _ _ _ _ ry h2 (SeqAt.canLay_of_shaped hs.2), hs.1, hs.2, h.ok rs _ rd_bl⟩
    · exact h.elim
  · exact h.elim
theorem od_eq : OpD X (rEqAll X.K) oEq := by
  intro W σ φ H S x y vx vy Q rs rx ry h
  unfold oEq at h
  split at h
  · unfold RD at rx ry
    subst rx ry
    refine .inr ⟨rfl, ?_⟩
    rw [dec_str]
    exact h.ok rs _ rd_bl
  · exact .inl (od_eqD W σ φ H S _ _ vx vy Q rs rx ry h)
theorem od_ne : OpD X (rNeAll X.K) oNe := by
  intro W σ φ H S x y vx vy Q rs rx ry h
  unfold oNe at h
  split at h
  · unfold RD at rx ry
    subst rx ry
    refine .inr ⟨rfl, ?_⟩
    rw [dec_str]
    exact h.ok rs _ rd_bl
  · exact .inl (od_neD W σ φ H S _ _ vx vy Q rs rx ry h)
/-- + of ints, texts, tuples, lists -/
def rAddAll (K : PySem.W.Frag) : R2 := fun x y H Q => rI0 (fun i j => .int (i + j)) x y H Q ∨ (∃ i j, x = .str i ∧ y = .str j ∧ i.length + j.length ≤ sizeLine ∧ Q (.str (i ++ j)) H) ∨ rCatA K x y H Q ∨ rCat x y H Q
theorem op_addAll : OpR X (binaryOp .Add) (rAddAll X.K) := OpR.or op_add (OpR.or op_add_str (OpR.or op_catA op_cat))
theorem od_add : OpD X (rAddAll X.K) oAdd := by
  intro W σ φ H S x y vx vy Q rs rx ry h
  unfold oAdd at h
  split at h
  · unfold RD at rx ry
    exact .inl ⟨_, _, rx, ry, h.ok rs _ rd_int⟩
  · unfold RD at rx ry
    split at h
    · exact .inr (.inl ⟨_, _, rx, ry, by assumption, h.ok rs _ rd_str⟩)
    · exact h.elim
  · have rx0 := rx
    have ry0 := ry
    unfold RD at rx ry
    obtain ⟨a, xs, rfl, hx, qx⟩ := rx
    obtain ⟨b, ys, rfl, hy, qy⟩ := ry
    split at h
    · rename_i hz
      refine .inr (.inr (.inl ⟨a, b, xs, ys, rfl, rfl, hx, hy, by rw [qx.length, qy.length]; exact hz, fun e => ?_, fun e1 e2 => ?_, fun e1 e2 p hp => ?_⟩))
      · have := qx.length; subst e; rw [List.length_nil] at this
        have e3 := List.eq_nil_of_length_eq_zero this.symm
        rw [e3, List.nil_append] at h
        exact h.ok rs _ ry0
      · have := qy.length; subst e2; rw [List.length_nil] at this
        have e3 := List.eq_nil_of_length_eq_zero this.symm
        rw [e3, List.append_nil] at h
        exact h.ok rs _ rx0
      · exact h φ _ (Ext.new hp) (rs.new hp) _ (od_new (qx.append qy) hp)
    · exact h.elim
  · unfold RD at rx ry
    split at h
    · rename_i h1 h2
      obtain ⟨a, ha, rfl⟩ := rx
      obtain ⟨b, hb, rfl⟩ := ry
      obtain ⟨a', q1, xs, qa, ra⟩ := rs.at h1
      obtain ⟨b', q2, ys, qb, rb⟩ := rs.at h2
      rw [ha] at q1; cases q1
      rw [hb] at q2; cases q2
      split at h
      · rename_i hz
        refine .inr (.inr (.inr ⟨a, b, xs, ys, rfl, rfl, qa, qb, by rw [ra.length, rb.length]; exact hz, fun p hp => ?_⟩))
        obtain ⟨z1, z2, z3⟩ := od_newC rs (ra.append rb) hp
        exact h _ _ z2 z1 _ z3
      · exact h.elim
    · exact h.elim
  · exact h.elim
def rMulAll : R2 := fun x y H Q => rI CMulX (fun i j => .int (i * j)) x y H Q ∨ rRep x y H Q
theorem op_mulAll : OpR X (binaryOp .Mult) rMulAll := OpR.or op_mulX op_rep
theorem od_mul : OpD X rMulAll oMul := by
  intro W σ φ H S x y vx vy Q rs rx ry h
  unfold oMul at h
  split at h
  · unfold RD at rx ry
    split at h
    · exact .inl ⟨_, _, rx, ry, by assumption, h.ok rs _ rd_int⟩
    · exact h.elim
  · unfold RD at rx ry
    split at h
    · rename_i h1
      obtain ⟨a, ha, rfl⟩ := rx
      obtain ⟨a', q1, xs, qa, ra⟩ := rs.at h1
      rw [ha] at q1; cases q1
      split at h
      · rename_i hz
        refine .inr ⟨a, _, xs, rfl, ry, qa, hz.1, hz.2.1, by rw [ra.length]; exact hz.2.2, fun p hp => ?_⟩
        obtain ⟨z1, z2, z3⟩ := od_newC rs (ra.replicate _) hp
        exact h _ _ z2 z1 _ z3
      · exact h.elim
    · exact h.elim
  · exact h.elim
/-! the operators' rules -/
section
variable {W : WX} {a b : Expr} {pos : Pos} {ma mb : ME} {k : Nat}
theorem se_add (ha : SE X W a ma) (hb : SE X W b mb) : SE X W (.BinOp a .Add b pos) (eBin oAdd ma mb) := se_op op_addAll od_add ha hb
theorem se_sub (ha : SE X W a ma) (hb : SE X W b mb) : SE X W (.BinOp a .Sub b pos) (eBin oSub ma mb) := se_op op_sub od_sub ha hb
theorem se_mul (ha : SE X W a ma) (hb : SE X W b mb) : SE X W (.BinOp a .Mult b pos) (eBin oMul ma mb) := se_op op_mulAll od_mul ha hb
theorem se_mod (ha : SE X W a ma) (hb : SE X W b mb) : SE X W (.BinOp a .Mod b pos) (eBin oMod ma mb) := se_op op_mod od_mod ha hb
theorem se_div (ha : SE X W a ma) (hb : SE X W b mb) : SE X W (.BinOp a .FloorDiv b pos) (eBin oDiv ma mb) := se_op op_fdivW od_div ha hb
theorem se_pow (ha : SE X W a ma) (hb : SE X W b mb) : SE X W (.BinOp a .Pow b pos) (eBin oPow ma mb) := se_op op_pow od_pow ha hb
end
end
end RL

namespace RL
open PySem PySem.Spec PyProof.Rows L2

section
variable {X : Cx} {W : WX} {e : Expr} {es : List Expr} {pos p : Pos} {me : ME} {ms : MA}
/-! ### argument lists, displays -/
def aNil : MA := fun _ S => .ok [] S
def aCons (m : ME) (ms : MA) : MA := fun ρ S => (m ρ S).bind fun x S1 => (ms ρ S1).bind fun xs S2 => .ok (x :: xs) S2
theorem sa_nil : SA X W [] aNil := by
  refine pa_nil.imp fun σ H Q => ?_
  rintro ⟨φ, ρ, S, re, rs, h⟩
  exact h.ok rs [] RDs.nil
theorem sa_cons (ha : SE X W e me) (hr : SA X W es ms) (hs : starEach (e :: es) X.env = (false, eval e X.env) :: starEach es X.env := by rfl) : SA X W (e :: es) (aCons me ms) := by
  refine (pa_cons ha hr hs).imp fun σ H Q => ?_
  rintro ⟨φ, ρ, S, re, rs, h⟩
  exact LE.to re rs h fun x S1 φ1 H1 vx x1 rs1 re1 rx h1 => LA.to re1 rs1 h1 fun xs S2 φ2 H2 vs x2 rs2 re2 rxs h2 => h2.ok rs2 _ (RDs.cons (rx.mono x2) rxs)
def eTup (ms : MA) : ME := fun ρ S => (ms ρ S).bind fun xs S1 => if xs.length ≤ sizeLine then .ok (.tup xs) S1 else .bad
def eLst (ms : MA) : ME := fun ρ S => (ms ρ S).bind fun xs S1 => if xs.length ≤ sizeLine then .ok (.ptr S1.length) (S1 ++ [.lst xs]) else .bad
theorem se_tup {x1} (h : SA X W es ms) : SE X W (.Tuple es x1 pos) (eTup ms) := by
  refine (L2.pe_tup h).imp fun σ H Q => ?_
  rintro ⟨φ, ρ, S, re, rs, h⟩
  refine LA.to re rs h fun xs S1 φ1 H1 vs x1 rs1 re1 rx h1 => ?_
  split at h1
  · rename_i hz
    exact ⟨by rw [rx.length]; exact hz, fun p hp => h1 φ1 _ (Ext.new hp) (rs1.new hp) _ (od_new rx hp)⟩
  · exact h1.elim
theorem se_lst (h : SA X W es ms) : SE X W (.List es pos) (eLst ms) := by
  refine (L2.pe_lst h).imp fun σ H Q => ?_
  rintro ⟨φ, ρ, S, re, rs, h⟩
  refine LA.to re rs h fun xs S1 φ1 H1 vs x1 rs1 re1 rx h1 => ?_
  split at h1
  · rename_i hz
    refine ⟨by rw [rx.length]; exact hz, fun p hp => ?_⟩
    obtain ⟨z1, z2, z3⟩ := od_newC rs1 rx hp
    exact h1 _ _ z2 z1 _ z3
  · exact h1.elim
def eDict0 : ME := fun _ S => .ok (.ptr S.length) (S ++ [.dct []])
theorem od_newD {K : PySem.W.Frag} {H : Hp} {φ : List Addr} {S : Store} {p : Addr} {kvs : List (L2.Key × D)} {ks : List (L2.Key × V)} (rs : RS K H φ S) (r : RKv K H φ kvs ks) (hp : H p = none) :
    RS K (upd H p (.dK ks)) (φ ++ [p]) (S ++ [.dct kvs]) ∧ Ext K φ H (φ ++ [p]) (upd H p (.dK ks)) ∧ RD K (upd H p (.dK ks)) (φ ++ [p]) (.ptr S.length) (.ref p) := by
  refine ⟨rs.newC hp ⟨ks, upd_same, r.mono (Ext.newC hp)⟩, Ext.newC hp, ?_⟩
  unfold RD
  exact ⟨p, by rw [← rs.len, List.getElem?_append_right (Nat.le_refl _), Nat.sub_self]; rfl, rfl⟩
theorem se_dict0 : SE X W (.Dict [] [] pos) eDict0 := by
  refine pe_dnewK.imp fun σ H Q => ?_
  rintro ⟨φ, ρ, S, re, rs, h⟩
  intro p hp
  obtain ⟨z1, z2, z3⟩ := od_newD rs (kvs := []) (ks := []) (by unfold RKv; rfl) hp
  exact h _ _ z2 z1 _ z3
/-- {key: e} with one written key -/
def eDict1 (k : L2.Key) (m : ME) : ME := fun ρ S => (m ρ (S ++ [.dct []])).bind fun v S1 => match S1[S.length]? with
  | some (.dct []) => .ok (.ptr S.length) (S1.set S.length (.dct [(k, v)]))
  | _ => .bad
theorem se_dict1 {k : L2.Key} {ke : Expr} (hk : PE X ke (tC (kV k))) (h : SE X W e me) : SE X W (.Dict [some ke] [e] pos) (eDict1 k me) := by
  refine (pe_disp (pps_cons hk h pps_nil) (by rfl) (by rfl) (fun z => by cases z) (by show 1 ≤ 15; decide)).imp fun σ H Q => ?_
  rintro ⟨φ, ρ, S, re, rs, h⟩
  intro p hp
  obtain ⟨z1, z2, z3⟩ := od_newD rs (kvs := []) (ks := []) (by unfold RKv; rfl) hp
  refine LE.to (re.mono z2) z1 (h.from z2) fun v S1 φ1 H1 vv x1 rs1 re1 rv h1 => ?_
  split at h1
  · rename_i hS
    obtain ⟨a, q1, ks, qa, ra⟩ := rs1.at hS
    have e1 : a = p := by
      have e2 := x1.pre S.length p (by rw [← rs.len, List.getElem?_append_right (Nat.le_refl _), Nat.sub_self]; rfl)
      rw [q1] at e2; exact Option.some.inj e2
    subst e1
    have e3 : ks = [] := by unfold RKv at ra; exact ra
    subst e3
    refine ⟨qa, [(k, vv)], rfl, by show 1 ≤ 15; decide, ?_⟩
    have e4 : mergeK [] [(k, vv)] = [(k, vv)] := rfl
    rw [e4]
    have xx : Ext X.K φ1 H1 φ1 (upd H1 a (.dK [(k, vv)])) := ⟨fun _ _ h => h, fun _ _ h => SqT.write qa NoTup.dK h⟩
    obtain ⟨w1, w2⟩ := rs1.writeG (c' := .dct [(k, v)]) (o := .dK [(k, vv)]) hS rfl rfl q1 qa NoTup.dK ⟨_, upd_same, by unfold RKv; exact ⟨vv, [], rfl, rv.mono xx, by unfold RKv; rfl⟩⟩
    exact h1 φ1 _ w2 w1 _ (by unfold RD; exact ⟨a, q1, rfl⟩)
  · exact h1.elim

/-! ### items, slices -/
def atD (xs : List D) (i : Int) : Option D := atI xs i
def oIx : D → D → Store → Res D
  | .tup xs, .int i, S => match atD xs i with
    | some d => .ok d S
    | none => .bad
  | .ptr n, .int i, S => match S[n]? with
    | some (.lst xs) => match atD xs i with
      | some d => .ok d S
      | none => .bad
    | some (.rol xs) => match atD xs i with
      | some d => .ok d S
      | none => .bad
    | _ => .bad
  | .str z, .int i, S => match atI z.cps.toList i with
    | some c => if z.length ≤ sizeLine then .ok (.str ⟨#[c]⟩) S else .bad
    | none => .bad
  | _, _, _ => .bad
theorem RDs.at {K : PySem.W.Frag} {H : Hp} {φ : List Addr} {ds : List D} {vs : List V} {i : Int} {d : D} (r : RDs K H φ ds vs) (e : atD ds i = some d) : ∃ v, atI vs i = some v ∧ RD K H φ d v := by
  unfold atD atI at e
  unfold atI
  rw [r.length]
  cases hj : ixN ds.length i with
  | none => rw [hj] at e; cases e
  | some j => rw [hj] at e; exact r.get e
theorem od_ix : OpD X (rIx X.K) oIx := by
  intro W σ φ H S x y vx vy Q rs rx ry h
  unfold oIx at h
  split at h
  · unfold RD at rx ry
    obtain ⟨a, xs, rfl, hx, qx⟩ := rx
    split at h
    · rename_i d hd
      obtain ⟨v, h1, h2⟩ := qx.at hd
      exact .inr (.inl ⟨a, xs, _, v, rfl, ry, hx, h1, h.ok rs v h2⟩)
    · exact h.elim
  · unfold RD at rx ry
    obtain ⟨a, ha, rfl⟩ := rx
    split at h
    · rename_i ys hS
      split at h
      · rename_i d hd
        obtain ⟨a', xs, q1, q2, q3⟩ := rs.seqL (.inl hS)
        rw [ha] at q1; cases q1
        obtain ⟨v, h1, h2⟩ := q3.at hd
        exact .inl ⟨a, xs, _, v, rfl, ry, q2, h1, h.ok rs v h2⟩
      · exact h.elim
    · rename_i ys hS
      split at h
      · rename_i d hd
        obtain ⟨a', xs, q1, q2, q3⟩ := rs.seqL (.inr hS)
        rw [ha] at q1; cases q1
        obtain ⟨v, h1, h2⟩ := q3.at hd
        exact .inl ⟨a, xs, _, v, rfl, ry, q2, h1, h.ok rs v h2⟩
      · exact h.elim
    · exact h.elim
  · unfold RD at rx ry
    split at h
    · rename_i c hc
      split at h
      · exact .inr (.inr ⟨_, _, c, rx, ry, by assumption, hc, h.ok rs _ rd_str⟩)
      · exact h.elim
    · exact h.elim
  · exact h.elim
theorem se_ix {a b : Expr} {ma mb : ME} (ha : SE X W a ma) (hb : SE X W b mb) (hs : PlainIx b := by exact fun _ _ => rfl) : SE X W (.Subscript a b pos) (eBin oIx ma mb) :=
  (pe_ix ix_seq ha hb hs).imp fun _ _ _ h => eBin.to od_ix h
/-- a part of a slice -/
abbrev MO := Env → Store → Res (Option Int)
def pNone : MO := fun _ S => .ok none S
def pSome (m : ME) : MO := fun ρ S => (m ρ S).bind fun x S1 => match x with
  | .int i => .ok (some i) S1
  | _ => .bad
def LO (X : Cx) (W : WX) (m : MO) : TO := fun σ H Q => ∃ φ ρ S, RE X.K H φ ρ σ ∧ RS X.K H φ S ∧ LK X W σ φ H (m ρ S) fun b _ _ H' => Q b H'
abbrev SO (X : Cx) (W : WX) (e : Option Expr) (m : MO) : Prop := PO X e (LO X W m)
theorem _root_.L2.PO.imp {X : Cx} {e : Option Expr} {t t' : TO} (h : PO X e t) (i : ∀ σ H Q, t' σ H Q → t σ H Q) : PO X e t' := ⟨fun pins s σ H Q I q => h.run pins s σ H Q I (i σ H Q q)⟩
theorem LO.to {β : Type} {σ : L2.St} {φ : List Addr} {H : Hp} {ρ : Env} {S : Store} {ma : MO} {f : Option Int → Store → Res β} {P : β → Store → List Addr → Hp → Prop} {Q : Option Int → Hp → Prop} (re : RE X.K H φ ρ σ) (rs : RS X.K H φ S) (h : LK X W σ φ H ((ma ρ S).bind f) P)
    (q : ∀ d S1 φ1 H1, Ext X.K φ H φ1 H1 → RS X.K H1 φ1 S1 → RE X.K H1 φ1 ρ σ → LK X W σ φ1 H1 (f d S1) P → Q d H1) : LO X W ma σ H Q :=
  ⟨φ, ρ, S, re, rs, (LK.bind h).mono fun d S1 φ1 H1 x z k => q d S1 φ1 H1 x z (re.mono x) k⟩
theorem so_none : SO X W none pNone := by
  refine po_none.imp fun σ H Q => ?_
  rintro ⟨φ, ρ, S, re, rs, h⟩
  exact h.ok rs
theorem so_some (h : SE X W e me) : SO X W (some e) (pSome me) := by
  refine (po_some h).imp fun σ H Q => ?_
  rintro ⟨φ, ρ, S, re, rs, h⟩
  refine LE.to re rs h fun x S1 φ1 H1 vx x1 rs1 re1 rx h1 => ?_
  split at h1
  · unfold RD at rx; exact ⟨_, rx, h1.ok rs1⟩
  · exact h1.elim
def cutD (xs : List D) (lo hi : Option Int) : List D := (xs.drop (HT.sIx xs.length 0 lo)).take (HT.sIx xs.length xs.length hi - HT.sIx xs.length 0 lo)
theorem RDs.cut {K : PySem.W.Frag} {H : Hp} {φ : List Addr} {ds : List D} {vs : List V} (r : RDs K H φ ds vs) (lo hi : Option Int) : RDs K H φ (cutD ds lo hi) (cutV vs lo hi) := by
  unfold cutD cutV
  rw [r.length]
  exact (r.drop _).take _
def oSl (x : D) (lo hi : Option Int) (S : Store) : Res D := match x with
  | .tup xs => .ok (.tup (cutD xs lo hi)) S
  | .str z => if z.length ≤ sizeLine then .ok (.str (cutS z lo hi)) S else .bad
  | .ptr n => match S[n]? with
    | some (.lst xs) => .ok (.ptr S.length) (S ++ [.lst (cutD xs lo hi)])
    | some (.rol xs) => .ok (.ptr S.length) (S ++ [.lst (cutD xs lo hi)])
    | _ => .bad
  | _ => .bad
def eSl (me : ME) (lo hi : MO) : ME := fun ρ S => (me ρ S).bind fun x S1 => (lo ρ S1).bind fun l S2 => (hi ρ S2).bind fun u S3 => oSl x l u S3
def rSlAll (K : PySem.W.Frag) : V → Option Int → Option Int → Hp → VK → Prop := fun x lo hi H Q => rSlA K x lo hi H Q ∨ rSlS x lo hi H Q ∨ rSlL K x lo hi H Q
theorem sl_all : SlR X (rSlAll X.K) := SlR.or sl_tupA (SlR.or sl_str sl_list)
theorem se_slice {lo hi : Option Expr} {ml mh : MO} {p2 : Pos} (he : SE X W e me) (hl : SO X W lo ml) (hu : SO X W hi mh) : SE X W (.Subscript e (.Slice lo hi none p2) pos) (eSl me ml mh) := by
  refine (pe_slice sl_all he hl hu).imp fun σ H Q => ?_
  rintro ⟨φ, ρ, S, re, rs, h⟩
  refine LE.to re rs h fun x S1 φ1 H1 vx x1 rs1 re1 rx h1 => LO.to re1 rs1 h1 fun l S2 φ2 H2 x2 rs2 re2 h2 => LO.to re2 rs2 h2 fun u S3 φ3 H3 x3 rs3 re3 h3 => ?_
  have rx := (rx.mono x2).mono x3
  unfold oSl at h3
  split at h3
  · have rx0 := rx
    unfold RD at rx
    obtain ⟨a, xs, rfl, hx, qx⟩ := rx
    refine .inl ⟨a, xs, rfl, hx, fun e => ?_, fun e q hq => h3 φ3 _ (Ext.new hq) (rs3.new hq) _ (od_new (qx.cut l u) hq)⟩
    refine h3.ok rs3 _ ?_
    rw [qx.length] at e
    unfold cutD
    rw [e.1, e.2, Nat.sub_zero, List.drop_zero, List.take_length]
    exact rx0
  · unfold RD at rx
    split at h3
    · exact .inr (.inl ⟨_, rx, by assumption, h3.ok rs3 _ rd_str⟩)
    · exact h3.elim
  · unfold RD at rx
    obtain ⟨a, ha, rfl⟩ := rx
    split at h3
    · rename_i ys hS
      obtain ⟨a', xs, q1, q2, q3⟩ := rs3.seqL (.inl hS)
      rw [ha] at q1; cases q1
      refine .inr (.inr ⟨a, xs, rfl, q2, fun q hq => ?_⟩)
      obtain ⟨z1, z2, z3⟩ := od_newC rs3 (q3.cut l u) hq
      exact h3 _ _ z2 z1 _ z3
    · rename_i ys hS
      obtain ⟨a', xs, q1, q2, q3⟩ := rs3.seqL (.inr hS)
      rw [ha] at q1; cases q1
      refine .inr (.inr ⟨a, xs, rfl, q2, fun q hq => ?_⟩)
      obtain ⟨z1, z2, z3⟩ := od_newC rs3 (q3.cut l u) hq
      exact h3 _ _ z2 z1 _ z3
    · exact h3.elim
  · exact h3.elim

/-! ### built-ins by name -/
def CallD (X : Cx) (r : List V → Hp → VK → Prop) (f : Fn) : Prop := ∀ (W : WX) (σ : L2.St) (φ : List Addr) (H : Hp) (S : Store) (xs : List D) (vs : List V) (Q : VK), RS X.K H φ S → RDs X.K H φ xs vs →
  LK X W σ φ H (f xs S) (fun d _ φ' H' => ∀ v, RD X.K H' φ' d v → Q v H') → r vs H Q
def eCall (f : Fn) (ms : MA) : ME := fun ρ S => (ms ρ S).bind fun xs S1 => f xs S1
theorem eCall.to {r : List V → Hp → VK → Prop} {f : Fn} (hd : CallD X r f) {σ : L2.St} {H : Hp} {Q : VK} (h : LE X W (eCall f ms) σ H Q) : tCB r (LA X W ms) σ H Q := by
  obtain ⟨φ, ρ, S, re, rs, h⟩ := h
  exact LA.to re rs h fun xs S1 φ1 H1 vs x1 rs1 re1 rx h1 => hd W σ φ1 H1 S1 xs vs Q rs1 rx h1
theorem se_callB {x : Str} {id : String} {r : List V → Hp → VK → Prop} {f : Fn} (hc : CallR X (.builtin id) r) (hd : CallD X r f) (hm : X.mg x = none) (hv : bootBuiltins x = some (.builtin id)) (ha : SA X W (e :: es) ms) (hg : Gl X x := by rfl)
    (hn : x ≠ "__name__" := by decide) (hdb : (x == ("__debug__" : Str)) = false := by decide) (he : starEach (e :: es) X.env = (false, eval e X.env) :: starEach es X.env := by rfl) (hpl : (backTo pos (starEach es X.env)).any (·.1) = false := by rfl) :
    SE X W (.Call (.Name x p) (e :: es) [] pos) (eCall f ms) := (pe_callB hc hg hm hv ha hn hdb he hpl).imp fun _ _ _ h => eCall.to hd h
theorem se_callTy {x : Str} {T : String} {r : List V → Hp → VK → Prop} {f : Fn} (hc : CallR X (.type T) r) (hd : CallD X r f) (hm : X.mg x = none) (hv : bootBuiltins x = some (.type T)) (ha : SA X W (e :: es) ms) (hg : Gl X x := by rfl)
    (hn : x ≠ "__name__" := by decide) (hdb : (x == ("__debug__" : Str)) = false := by decide) (he : starEach (e :: es) X.env = (false, eval e X.env) :: starEach es X.env := by rfl) (hpl : (backTo pos (starEach es X.env)).any (·.1) = false := by rfl) :
    SE X W (.Call (.Name x p) (e :: es) [] pos) (eCall f ms) := (pe_callTy hc hg hm hv ha hn hdb he hpl).imp fun _ _ _ h => eCall.to hd h
def fLen : Fn
  | [.tup xs], S => .ok (.int xs.length) S
  | [.str z], S => if z.length ≤ sizeLine then .ok (.int z.length) S else .bad
  | [.ptr n], S => match S[n]? with
    | some (.lst xs) => .ok (.int xs.length) S
    | some (.rol xs) => .ok (.int xs.length) S
    | _ => .bad
  | _, _ => .bad
theorem RDs.one {K : PySem.W.Frag} {H : Hp} {φ : List Addr} {d : D} {vs : List V} (h : RDs K H φ [d] vs) : ∃ v, vs = [v] ∧ RD K H φ d v := by
  unfold RDs at h
  obtain ⟨v, vs', rfl, r, s⟩ := h
  unfold RDs at s
  subst s
  exact ⟨v, rfl, r⟩
theorem RDs.two {K : PySem.W.Frag} {H : Hp} {φ : List Addr} {d e : D} {vs : List V} (h : RDs K H φ [d, e] vs) : ∃ v u, vs = [v, u] ∧ RD K H φ d v ∧ RD K H φ e u := by
  unfold RDs at h
  obtain ⟨v, vs', rfl, r, s⟩ := h
  obtain ⟨u, rfl, q⟩ := s.one
  exact ⟨v, u, rfl, r, q⟩
theorem cd_len : CallD X (fun xs H Q => ∃ x n, xs = [x] ∧ LenV X.K x H n ∧ Q (.int n) H) fLen := by
  intro W σ φ H S xs vs Q rs r h
  unfold fLen at h
  split at h
  · obtain ⟨v, rfl, rx⟩ := r.one
    unfold RD at rx
    obtain ⟨a, ys, rfl, hx, qx⟩ := rx
    exact ⟨.ref a, _, rfl, .inr ⟨ys, hx, rfl⟩, by rw [qx.length]; exact h.ok rs _ rd_int⟩
  · obtain ⟨v, rfl, rx⟩ := r.one
    unfold RD at rx
    subst rx
    split at h
    · exact ⟨_, _, rfl, ⟨by assumption, rfl⟩, h.ok rs _ rd_int⟩
    · exact h.elim
  · obtain ⟨v, rfl, rx⟩ := r.one
    unfold RD at rx
    obtain ⟨a, ha, rfl⟩ := rx
    split at h
    · rename_i ys hS
      obtain ⟨a', xs, q1, q2, q3⟩ := rs.seqL (.inl hS)
      rw [ha] at q1; cases q1
      exact ⟨.ref a, _, rfl, .inl ⟨xs, q2, rfl⟩, by rw [q3.length]; exact h.ok rs _ rd_int⟩
    · rename_i ys hS
      obtain ⟨a', xs, q1, q2, q3⟩ := rs.seqL (.inr hS)
      rw [ha] at q1; cases q1
      exact ⟨.ref a, _, rfl, .inl ⟨xs, q2, rfl⟩, by rw [q3.length]; exact h.ok rs _ rd_int⟩
    · exact h.elim
  · exact h.elim
def fInt : Fn
  | [.int i], S => .ok (.int i) S
  | [.bl b], S => .ok (.int (if b then 1 else 0)) S
  | _, _ => .bad
theorem cd_int : CallD X (fun xs H Q => (∃ i, xs = [.int i] ∧ Q (.int i) H) ∨ ∃ k, xs = [.bl k] ∧ Q (.int (if k then 1 else 0)) H) fInt := by
  intro W σ φ H S xs vs Q rs r h
  unfold fInt at h
  split at h
  · obtain ⟨v, rfl, rx⟩ := r.one; unfold RD at rx; subst rx; exact .inl ⟨_, rfl, h.ok rs _ rd_int⟩
  · obtain ⟨v, rfl, rx⟩ := r.one; unfold RD at rx; subst rx; exact .inr ⟨_, rfl, h.ok rs _ rd_int⟩
  · exact h.elim
def fBool : Fn
  | [.int i], S => .ok (.bl (i != 0)) S
  | [.bl b], S => .ok (.bl b) S
  | _, _ => .bad
theorem cd_bool : CallD X (fun xs H Q => (∃ i, xs = [.int i] ∧ Q (.bl (i != 0)) H) ∨ ∃ k, xs = [.bl k] ∧ Q (.bl k) H) fBool := by
  intro W σ φ H S xs vs Q rs r h
  unfold fBool at h
  split at h
  · obtain ⟨v, rfl, rx⟩ := r.one; unfold RD at rx; subst rx; exact .inl ⟨_, rfl, h.ok rs _ rd_bl⟩
  · obtain ⟨v, rfl, rx⟩ := r.one; unfold RD at rx; subst rx; exact .inr ⟨_, rfl, h.ok rs _ rd_bl⟩
  · exact h.elim
def fAbs : Fn
  | [.int i], S => .ok (.int (if i < 0 then -i else i)) S
  | _, _ => .bad
theorem cd_abs : CallD X (fun xs H Q => ∃ i, xs = [.int i] ∧ Q (.int (if i < 0 then -i else i)) H) fAbs := by
  intro W σ φ H S xs vs Q rs r h
  unfold fAbs at h
  split at h
  · obtain ⟨v, rfl, rx⟩ := r.one; unfold RD at rx; subst rx; exact ⟨_, rfl, h.ok rs _ rd_int⟩
  · exact h.elim
def fMin : Fn
  | [.int i, .int j], S => .ok (.int (if j < i then j else i)) S
  | _, _ => .bad
theorem cd_min : CallD X (fun xs H Q => ∃ i j, xs = [.int i, .int j] ∧ Q (.int (if j < i then j else i)) H) fMin := by
  intro W σ φ H S xs vs Q rs r h
  unfold fMin at h
  split at h
  · obtain ⟨v, u, rfl, rx, ry⟩ := r.two; unfold RD at rx ry; subst rx ry; exact ⟨_, _, rfl, h.ok rs _ rd_int⟩
  · exact h.elim
def fMax : Fn
  | [.int i, .int j], S => .ok (.int (if j > i then j else i)) S
  | _, _ => .bad
theorem cd_max : CallD X (fun xs H Q => ∃ i j, xs = [.int i, .int j] ∧ Q (.int (if j > i then j else i)) H) fMax := by
  intro W σ φ H S xs vs Q rs r h
  unfold fMax at h
  split at h
  · obtain ⟨v, u, rfl, rx, ry⟩ := r.two; unfold RD at rx ry; subst rx ry; exact ⟨_, _, rfl, h.ok rs _ rd_int⟩
  · exact h.elim
def fTuple : Fn
  | [.tup xs], S => .ok (.tup xs) S
  | [.ptr n], S => match S[n]? with
    | some (.lst xs) => .ok (.tup xs) S
    | some (.rol xs) => .ok (.tup xs) S
    | _ => .bad
  | _, _ => .bad
theorem cd_tuple : CallD X (fun xs H Q => ∃ p ys, xs = [.ref p] ∧ ((SqL X.K H p ys ∧ ∀ l, H l = none → Q (.ref l) (upd H l (.tup ys))) ∨ (SqT X.K H p ys ∧ Q (.ref p) H))) fTuple := by
  intro W σ φ H S xs vs Q rs r h
  unfold fTuple at h
  split at h
  · obtain ⟨v, rfl, rx⟩ := r.one
    have rx0 := rx
    unfold RD at rx
    obtain ⟨a, ys, rfl, hx, qx⟩ := rx
    exact ⟨a, ys, rfl, .inr ⟨hx, h.ok rs _ rx0⟩⟩
  · obtain ⟨v, rfl, rx⟩ := r.one
    unfold RD at rx
    obtain ⟨a, ha, rfl⟩ := rx
    split at h
    · rename_i ys hS
      obtain ⟨a', xs, q1, q2, q3⟩ := rs.seqL (.inl hS)
      rw [ha] at q1; cases q1
      exact ⟨a, xs, rfl, .inl ⟨q2, fun l hl => h φ _ (Ext.new hl) (rs.new hl) _ (od_new q3 hl)⟩⟩
    · rename_i ys hS
      obtain ⟨a', xs, q1, q2, q3⟩ := rs.seqL (.inr hS)
      rw [ha] at q1; cases q1
      exact ⟨a, xs, rfl, .inl ⟨q2, fun l hl => h φ _ (Ext.new hl) (rs.new hl) _ (od_new q3 hl)⟩⟩
    · exact h.elim
  · exact h.elim
def fList : Fn
  | [.tup xs], S => .ok (.ptr S.length) (S ++ [.lst xs])
  | [.ptr n], S => match S[n]? with
    | some (.lst xs) => .ok (.ptr S.length) (S ++ [.lst xs])
    | some (.rol xs) => .ok (.ptr S.length) (S ++ [.lst xs])
    | _ => .bad
  | _, _ => .bad
theorem cd_list : CallD X (fun xs H Q => ∃ p ys, xs = [.ref p] ∧ (SqL X.K H p ys ∨ SqT X.K H p ys) ∧ ∀ l, H l = none → Q (.ref l) (upd H l (.lst ys))) fList := by
  intro W σ φ H S xs vs Q rs r h
  unfold fList at h
  split at h
  · obtain ⟨v, rfl, rx⟩ := r.one
    unfold RD at rx
    obtain ⟨a, ys, rfl, hx, qx⟩ := rx
    refine ⟨a, ys, rfl, .inr hx, fun l hl => ?_⟩
    obtain ⟨z1, z2, z3⟩ := od_newC rs qx hl
    exact h _ _ z2 z1 _ z3
  · obtain ⟨v, rfl, rx⟩ := r.one
    unfold RD at rx
    obtain ⟨a, ha, rfl⟩ := rx
    split at h
    · rename_i ys hS
      obtain ⟨a', xs, q1, q2, q3⟩ := rs.seqL (.inl hS)
      rw [ha] at q1; cases q1
      refine ⟨a, xs, rfl, .inl q2, fun l hl => ?_⟩
      obtain ⟨z1, z2, z3⟩ := od_newC rs q3 hl
      exact h _ _ z2 z1 _ z3
    · rename_i ys hS
      obtain ⟨a', xs, q1, q2, q3⟩ := rs.seqL (.inr hS)
      rw [ha] at q1; cases q1
      refine ⟨a, xs, rfl, .inl q2, fun l hl => ?_⟩
      obtain ⟨z1, z2, z3⟩ := od_newC rs q3 hl
      exact h _ _ z2 z1 _ z3
    · exact h.elim
  · exact h.elim
/-! ### isinstance of a built-in type -/
def kindC : Option Cell → Option String
  | some (.lst _) => some "list"
  | some (.rol _) => some "list"
  | some (.dct _) => some "dict"
  | none => none
def kindD (S : Store) : D → Option String
  | .non => some "NoneType"
  | .bl _ => some "bool"
  | .int _ => some "int"
  | .str _ => some "str"
  | .tup _ => some "tuple"
  | .ptr n => kindC S[n]?
theorem kind_tyx {K : PySem.W.Frag} {H : Hp} {φ : List Addr} {S : Store} {d : D} {v : V} {n : String} (rs : RS K H φ S) (r : RD K H φ d v) (h : kindD S d = some n) : TyX K H v (.type n) := by
  cases d with
  | non => unfold RD at r; subst r; cases h; exact .base .non
  | bl b => unfold RD at r; subst r; cases h; exact .base (.bl _)
  | int b => unfold RD at r; subst r; cases h; exact .base (.int _)
  | str b => unfold RD at r; subst r; cases h; exact .base (.str _)
  | tup ds =>
    unfold RD at r
    obtain ⟨a, xs, rfl, s, _⟩ := r
    cases h
    rcases s with (s | ⟨o, s⟩) | ⟨o, its, n, s, c, _⟩
    · exact .base (.tup s)
    · exact .fTuple s
    · exact .kTuple s c
  | ptr m =>
    unfold RD at r
    obtain ⟨a, ha, rfl⟩ := r
    have h : kindC S[m]? = some n := h
    unfold kindC at h
    split at h
    · rename_i hS
      obtain ⟨a', q1, xs, q2, _⟩ := rs.at hS
      rw [ha] at q1; cases q1; cases h
      exact .base (.lst q2)
    · rename_i hS
      obtain ⟨a', q1, xs, q2, _⟩ := rs.at hS
      rw [ha] at q1; cases q1; cases h
      rcases q2 with ⟨o, q2⟩ | ⟨o, its, n', q2, q3, _⟩
      · exact .base (.frz q2)
      · exact .kList q2 q3
    · rename_i hS
      obtain ⟨a', q1, xs, q2, _⟩ := rs.at hS
      rw [ha] at q1; cases q1; cases h
      exact .base (.dK q2)
    · cases h
def isiB (k T : String) : Bool := k == T || (k == "bool" && T == "int")
def kinds6 : List String := ["NoneType", "bool", "int", "str", "tuple", "list", "dict"]
theorem kit_all : ∀ k ∈ kinds6, ∀ T ∈ kinds6, kitB k T = some (isiB k T) := by decide +kernel
theorem kindD_mem {S : Store} {d : D} {n : String} (h : kindD S d = some n) : n ∈ kinds6 := by
  unfold kinds6
  cases d with
  | ptr m =>
    have h : kindC S[m]? = some n := h
    unfold kindC at h
    split at h <;> cases h <;> simp
  | _ => cases h; simp
def eIsi (T : String) (m : ME) : ME := fun ρ S => (m ρ S).bind fun x S1 => match kindD S1 x with
  | some k => .ok (.bl (isiB k T)) S1
  | none => .bad
theorem se_isi {tn : Str} {T : String} {pt : Pos} (hm : X.mg "isinstance" = none) (hT : T ∈ kinds6) (hmt : X.mg tn = none) (hvt : bootBuiltins tn = some (.type T)) (ha : SE X W e me) (hg : Gl X "isinstance" := by rfl) (hgt : Gl X tn := by rfl)
    (hnt : tn ≠ "__name__" := by decide) (hdt : (tn == ("__debug__" : Str)) = false := by decide) (h1 : starEach [e, .Name tn pt] X.env = (false, eval e X.env) :: starEach [.Name tn pt] X.env := by rfl)
    (h2 : starEach [.Name tn pt] X.env = (false, eval (.Name tn pt) X.env) :: starEach [] X.env := by rfl) (hpl : (backTo pos (starEach [.Name tn pt] X.env)).any (·.1) = false := by rfl) :
    SE X W (.Call (.Name "isinstance" p) [e, .Name tn pt] [] pos) (eIsi T me) := by
  refine (pe_callB call_isi hg hm boot_isinstance (pa_cons ha (pa_cons (pe_bltn (v := .ty T) hgt hmt hvt rfl hnt hdt) pa_nil h2) h1) (by decide) (by decide) h1 hpl).imp fun σ H Q => ?_
  rintro ⟨φ, ρ, S, re, rs, h⟩
  refine LE.to re rs h fun x S1 φ1 H1 vx x1 rs1 re1 rx k => ?_
  split at k
  · rename_i kk hk
    exact ⟨vx, .ty T, .type kk, .type T, _, rfl, .ty T, kind_tyx rs1 rx hk, kit_ty (kit_all kk (kindD_mem hk) T hT), k.ok rs1 _ rd_bl⟩
  · exact k.elim
end
end RL

namespace RL
open PySem PySem.Spec PyProof.Rows L2

/-! ### statements -/
def ofE {α : Type} (r : Res α) (ρ : Env) (f : α → Store → SRes) : SRes :=
  match r with
  | .ok a S => f a S
  | .exn x S => .exn x ρ S
  | .bad => .bad
section
variable {X : Cx} {W : WX} {e c : Expr} {es : List Expr} {st : Stmt} {sts rest : List Stmt} {pos p : Pos} {me : ME} {ms : MA} {m n : MS} {t : MT}
theorem LKS.ofE {α : Type} {r : Res α} {ρ : Env} {σ : L2.St} {φ : List Addr} {H : Hp} {f : α → Store → SRes} {D : Ends} (re : RE X.K H φ ρ σ) (h : LKS X W φ H (RL.ofE r ρ f) D) :
    LK X W σ φ H r fun a S1 φ1 H1 => LKS X W φ1 H1 (f a S1) D := by
  cases r with
  | ok a S => exact fun φ2 H2 y z => LKS.from y h
  | exn x S => exact fun φ2 H2 cls dd y z q => h φ2 H2 σ cls dd y z (re.mono y) q
  | bad => exact h
theorem LE.toS {ρ : Env} {S : Store} {σ : L2.St} {φ : List Addr} {H : Hp} {f : D → Store → SRes} {D : Ends} {Q : VK} (re : RE X.K H φ ρ σ) (rs : RS X.K H φ S) (h : LKS X W φ H (ofE (me ρ S) ρ f) D)
    (q : ∀ d S1 φ1 H1 v, Ext X.K φ H φ1 H1 → RS X.K H1 φ1 S1 → RE X.K H1 φ1 ρ σ → RD X.K H1 φ1 d v → LKS X W φ1 H1 (f d S1) D → Q v H1) : LE X W me σ H Q :=
  ⟨φ, ρ, S, re, rs, (LKS.ofE re h).mono fun d S1 φ1 H1 x z k v rd => q d S1 φ1 H1 v x z (re.mono x) rd k⟩
theorem LT.toS {ρ : Env} {S : Store} {σ : L2.St} {φ : List Addr} {H : Hp} {f : Bool → Store → SRes} {D : Ends} {Q : Bool → Hp → Prop} (re : RE X.K H φ ρ σ) (rs : RS X.K H φ S) (h : LKS X W φ H (ofE (t ρ S) ρ f) D)
    (q : ∀ d S1 φ1 H1, Ext X.K φ H φ1 H1 → RS X.K H1 φ1 S1 → RE X.K H1 φ1 ρ σ → LKS X W φ1 H1 (f d S1) D → Q d H1) : LT X W t σ H Q :=
  ⟨φ, ρ, S, re, rs, (LKS.ofE re h).mono fun d S1 φ1 H1 x z k => q d S1 φ1 H1 x z (re.mono x) k⟩
theorem LS.go {ρ : Env} {S : Store} {σ : L2.St} {φ : List Addr} {H : Hp} {D : Ends} (re : RE X.K H φ ρ σ) (rs : RS X.K H φ S) (h : LKS X W φ H (m ρ S) D) : LS X W m D σ H := ⟨φ, ρ, S, re, rs, h⟩
theorem LKS.nx {ρ : Env} {S : Store} {σ : L2.St} {φ : List Addr} {H : Hp} {D : Ends} (h : LKS X W φ H (.next ρ S) D) (re : RE X.K H φ ρ σ) (rs : RS X.K H φ S) : D.nx σ H := h φ H σ Ext.refl rs re
def sDrop (me : ME) : MS := fun ρ S => ofE (me ρ S) ρ fun _ S1 => .next ρ S1
def sRet (me : ME) : MS := fun ρ S => ofE (me ρ S) ρ fun d S1 => .ret d S1
def sRetN : MS := fun _ S => .ret .non S
def sPass : MS := fun ρ S => .next ρ S
def sBrk : MS := fun ρ S => .brk ρ S
def sCont : MS := fun ρ S => .cont ρ S
def sIf (t : MT) (m n : MS) : MS := fun ρ S => ofE (t ρ S) ρ fun c S1 => if c then m ρ S1 else n ρ S1
def sSeq (m n : MS) : MS := fun ρ S => match m ρ S with
  | .next ρ1 S1 => n ρ1 S1
  | r => r
theorem ss_drop (he : SE X W e me) (hs : swapsWith e none pos.line X.env = pure false := by rfl) : SS X W (.Expr e pos) (sDrop me) := by
  refine (ps_expr he hs).imp fun D σ H => ?_
  rintro ⟨φ, ρ, S, re, rs, h⟩
  exact LE.toS re rs h fun d S1 φ1 H1 v x1 rs1 re1 rd k => k.nx re1 rs1
theorem ss_ret (he : SE X W e me) : SS X W (.Return (some e) pos) (sRet me) := by
  refine (ps_ret he).imp fun D σ H => ?_
  rintro ⟨φ, ρ, S, re, rs, h⟩
  exact LE.toS re rs h fun d S1 φ1 H1 v x1 rs1 re1 rd k => k φ1 H1 v Ext.refl rs1 rd
theorem ss_retN : SS X W (.Return none pos) sRetN := by
  refine ps_retN.imp fun D σ H => ?_
  rintro ⟨φ, ρ, S, re, rs, h⟩
  exact h φ H _ Ext.refl rs rd_non
theorem ss_pass : SS X W (.Pass pos) sPass := by
  refine ps_pass.imp fun D σ H => ?_
  rintro ⟨φ, ρ, S, re, rs, h⟩
  exact h φ H σ Ext.refl rs re
theorem ss_break : SS X W (.Break pos) sBrk := by
  refine ps_break.imp fun D σ H => ?_
  rintro ⟨φ, ρ, S, re, rs, h⟩
  exact h φ H σ Ext.refl rs re
theorem ss_cont : SS X W (.Continue pos) sCont := by
  refine ps_continue.imp fun D σ H => ?_
  rintro ⟨φ, ρ, S, re, rs, h⟩
  exact h φ H σ Ext.refl rs re
theorem sss_nil : SSs X W [] sPass := by
  refine pss_nil.imp fun D σ H => ?_
  rintro ⟨φ, ρ, S, re, rs, h⟩
  exact h φ H σ Ext.refl rs re
theorem sss_cons (h1 : SS X W st m) (h2 : SSs X W rest n) : SSs X W (st :: rest) (sSeq m n) := by
  refine (pss_cons h1 h2).imp fun D σ H => ?_
  rintro ⟨φ, ρ, S, re, rs, h⟩
  refine ⟨φ, ρ, S, re, rs, ?_⟩
  unfold sSeq at h
  cases hm : m ρ S with
  | next ρ1 S1 => rw [hm] at h; exact fun φ2 H2 σ2 x2 rs2 re2 => ⟨φ2, ρ1, S1, re2, rs2, LKS.from x2 h⟩
  | ret d S1 => rw [hm] at h; exact h
  | brk ρ1 S1 => rw [hm] at h; exact h
  | cont ρ1 S1 => rw [hm] at h; exact h
  | exn x ρ1 S1 => rw [hm] at h; exact h
  | bad => rw [hm] at h; exact h
theorem ss_if {a b : List Stmt} (hc : ST X W c t) (ha : SSs X W a m) (hb : SSs X W b n) : SS X W (.If c a b pos) (sIf t m n) := by
  refine (ps_if hc ha hb).imp fun D σ H => ?_
  rintro ⟨φ, ρ, S, re, rs, h⟩
  refine LT.toS re rs h fun d S1 φ1 H1 x1 rs1 re1 k => ?_
  cases d with
  | true => exact iteT (LS.go re1 rs1 k)
  | false => exact iteF (LS.go re1 rs1 k)

/-! ### targets -/
abbrev MG := D → Env → Store → SRes
abbrev MGs := List D → Env → Store → SRes
def onlyNx (Q : L2.St → Hp → Prop) : Ends := { nx := Q, rt := fun _ _ => False }
def LG (X : Cx) (W : WX) (g : MG) : TG := fun v σ H Q => ∃ φ ρ S d, RE X.K H φ ρ σ ∧ RS X.K H φ S ∧ RD X.K H φ d v ∧ LKS X W φ H (g d ρ S) (onlyNx Q)
def LGs (X : Cx) (W : WX) (g : MGs) : TGs := fun vs σ H Q => ∃ φ ρ S ds, RE X.K H φ ρ σ ∧ RS X.K H φ S ∧ RDs X.K H φ ds vs ∧ LKS X W φ H (g ds ρ S) (onlyNx Q)
abbrev SG (X : Cx) (W : WX) (tg : Expr) (g : MG) : Prop := PG X tg (LG X W g)
abbrev SGs (X : Cx) (W : WX) (tg : List Expr) (g : MGs) : Prop := PGs X tg (LGs X W g)
theorem _root_.L2.PG.imp {X : Cx} {e : Expr} {t t' : TG} (h : PG X e t) (i : ∀ v σ H Q, t' v σ H Q → t v σ H Q) : PG X e t' := ⟨fun pins s σ H v u Q I r q => h.run pins s σ H v u Q I r (i v σ H Q q)⟩
theorem _root_.L2.PGs.imp {X : Cx} {e : List Expr} {t t' : TGs} (h : PGs X e t) (i : ∀ v σ H Q, t' v σ H Q → t v σ H Q) : PGs X e t' := ⟨fun pins s σ H v u Q I r q => h.run pins s σ H v u Q I r (i v σ H Q q)⟩
def gNm (i : Nat) : MG := fun d ρ S => .next (ρ.set i (some d)) S
theorem sg_name (i : Nat) {x : Str} (hN : X.N.Nodup) (hi : X.N[i]? = some x := by rfl) (hx : Loc X.env.scope x := by first | exact Or.inl rfl | exact Or.inr rfl) (hf : X.fn x = true ∨ X.env.scope.names.lookup x = some .local := by first | exact .inl rfl | exact .inr rfl | assumption) : SG X W (.Name x pos) (gNm i) := by
  refine (pg_name hN hi hx hf).imp fun v σ H Q => ?_
  rintro ⟨φ, ρ, S, d, re, rs, rd, h⟩
  exact h.nx (re.set i rd) rs
def gNilM : MGs := fun ds ρ S => match ds with
  | [] => .next ρ S
  | _ => .bad
def gConsM (g : MG) (gs : MGs) : MGs := fun ds ρ S => match ds with
  | d :: r => match g d ρ S with
    | .next ρ1 S1 => gs r ρ1 S1
    | q => q
  | [] => .bad
theorem sgs_nil : SGs X W [] gNilM := by
  refine pgs_nil.imp fun vs σ H Q => ?_
  rintro ⟨φ, ρ, S, ds, re, rs, rd, h⟩
  unfold gNilM at h
  split at h
  · unfold RDs at rd; exact ⟨rd, h.nx re rs⟩
  · exact h.elim
theorem sgs_cons {g : MG} {gs : MGs} (h1 : SG X W e g) (h2 : SGs X W es gs) (hs : (assignEach (e :: es) X.env).map (·.2) = assign e X.env :: (assignEach es X.env).map (·.2) := by rfl) : SGs X W (e :: es) (gConsM g gs) := by
  refine (pgs_cons h1 h2 hs).imp fun vs σ H Q => ?_
  rintro ⟨φ, ρ, S, ds, re, rs, rd, h⟩
  cases ds with
  | nil => exact h.elim
  | cons d r =>
    unfold RDs at rd
    obtain ⟨v, vs', rfl, rd1, rd2⟩ := rd
    refine ⟨v, vs', rfl, φ, ρ, S, d, re, rs, rd1, ?_⟩
    have h : LKS X W φ H (match g d ρ S with
      | .next ρ1 S1 => gs r ρ1 S1
      | q => q) (onlyNx Q) := h
    cases hm : g d ρ S with
    | next ρ1 S1 => rw [hm] at h; exact fun φ2 H2 σ2 x2 rs2 re2 => ⟨φ2, ρ1, S1, r, re2, rs2, rd2.mono x2, LKS.from x2 h⟩
    | ret d S1 => rw [hm] at h; exact h
    | brk ρ1 S1 => rw [hm] at h; exact h
    | cont ρ1 S1 => rw [hm] at h; exact h
    | exn x ρ1 S1 => rw [hm] at h; exact h
    | bad => rw [hm] at h; exact h
def gTp (n : Nat) (gs : MGs) : MG := fun d ρ S => match d with
  | .tup xs => if xs.length = n then gs xs ρ S else .bad
  | _ => .bad
theorem sg_tup {es : List Expr} {k n : Nat} {gs : MGs} (hc : X.calm = true) (h : SGs X W es gs) (hn : (assignEach es X.env).length = n := by rfl) (hst : (assignEach es X.env).findIdx? (·.1) = none := by rfl) : SG X W (.Tuple es k pos) (gTp n gs) := by
  refine (pg_tup hc h hn hst).imp fun v σ H Q => ?_
  rintro ⟨φ, ρ, S, d, re, rs, rd, h⟩
  unfold gTp at h
  split at h
  · unfold RD at rd
    obtain ⟨a, xs, rfl, s, q⟩ := rd
    split at h
    · exact ⟨a, xs, rfl, s, by rw [q.length]; assumption, φ, ρ, S, _, re, rs, q, h⟩
    · exact h.elim
  · exact h.elim
def putL (o i d : D) (S : Store) : Option Store := match o, i with
  | .ptr n, .int k => match S[n]? with
    | some (.lst xs) => (ixN xs.length k).map fun j => S.set n (.lst (xs.set j d))
    | _ => none
  | _, _ => none
def gSubM (mo mi : ME) : MG := fun d ρ S => ofE (mo ρ S) ρ fun o S1 => ofE (mi ρ S1) ρ fun i S2 => match putL o i d S2 with
  | some S3 => .next ρ S3
  | none => .bad
theorem sg_sub {o i : Expr} {mo mi : ME} (ho : SE X W o mo) (hi : SE X W i mi)
    (ha : ∀ v, assign (.Subscript o i pos) X.env v = (do
      let ov ← holding [v] (eval o X.env)
      let iv ← holding [v, ov] (eval i X.env)
      standAt pos
      holding [v, ov, iv] (setItem ov iv v)
      release [v, ov, iv] []) := by intro _; rfl) : SG X W (.Subscript o i pos) (gSubM mo mi) := by
  refine (pg_sub ho hi set_list ha).imp fun v σ H Q => ?_
  rintro ⟨φ, ρ, S, d, re, rs, rd, h⟩
  refine LE.toS re rs h fun od S1 φ1 H1 ov x1 rs1 re1 ro h1 => LE.toS re1 rs1 h1 fun di S2 φ2 H2 iv x2 rs2 re2 ri h2 => ?_
  split at h2
  · rename_i S3 hp
    unfold putL at hp
    split at hp
    · rename_i n k
      unfold RD at ro ri
      obtain ⟨a, ha, rfl⟩ := ro
      split at hp
      · rename_i ds hS
        cases hj : ixN ds.length k with
        | none => rw [hj] at hp; cases hp
        | some j =>
          rw [hj] at hp; cases hp
          obtain ⟨a', q1, xs, q2, q3⟩ := rs2.at hS
          rw [x2.pre _ _ ha] at q1; cases q1
          refine ⟨a, xs, k, j, rfl, ri, q2, by rw [q3.length]; exact hj, ?_⟩
          obtain ⟨w1, w2⟩ := rs2.write hS (x2.pre _ _ ha) q2 (q3.set j ((rd.mono x1).mono x2))
          exact h2 φ2 _ σ w2 w1 (re2.mono w2)
      · cases hp
    · cases hp
  · exact h2.elim
def nxOnly : SRes → SRes
  | .next ρ S => .next ρ S
  | .exn x ρ S => .exn x ρ S
  | _ => .bad
theorem LKS.nxOnly {φ : List Addr} {H : Hp} {r : SRes} {D : Ends} (h : LKS X W φ H (RL.nxOnly r) D) : LKS X W φ H r (onlyNx D.nx) := by
  cases r with
  | next ρ S => exact h
  | exn x ρ S => exact h
  | ret d S => exact h.elim
  | brk ρ S => exact h.elim
  | cont ρ S => exact h.elim
  | bad => exact h
def sAsg (me : ME) (g : MG) : MS := fun ρ S => ofE (me ρ S) ρ fun d S1 => nxOnly (g d ρ S1)
def sSet (i : Nat) (me : ME) : MS := fun ρ S => ofE (me ρ S) ρ fun d S1 => .next (ρ.set i (some d)) S1
theorem ss_asg {tg : Expr} {g : MG} (he : SE X W e me) (hg : SG X W tg g) (hs : swapsWithSole [tg] e pos.line X.env = pure false := by rfl) (hw : swappedStores [tg] e X.env = pure none := by rfl)
    (h1 : (assignEach [tg] X.env).map (·.2) = [assign tg X.env] := by rfl) : SS X W (.Assign [tg] e pos) (sAsg me g) := by
  refine (ps_asg he hg hs hw h1).imp fun D σ H => ?_
  rintro ⟨φ, ρ, S, re, rs, h⟩
  exact LE.toS re rs h fun d S1 φ1 H1 v x1 rs1 re1 rd k => ⟨φ1, ρ, S1, d, re1, rs1, rd, LKS.nxOnly k⟩
theorem ss_set (i : Nat) {x : Str} {pos' : Pos} (hN : X.N.Nodup) (he : SE X W e me) (hi : X.N[i]? = some x := by rfl) (hx : Loc X.env.scope x := by first | exact Or.inl rfl | exact Or.inr rfl) (hs : swapsWith e (some (.Name x pos')) pos.line X.env = pure false := by rfl)
    (hf : X.fn x = true ∨ X.env.scope.names.lookup x = some .local := by first | exact .inl rfl | exact .inr rfl | assumption) : SS X W (.Assign [.Name x pos'] e pos) (sSet i me) := by
  refine (ps_set hN hi hx he hs hf).imp fun D σ H => ?_
  rintro ⟨φ, ρ, S, re, rs, h⟩
  exact LE.toS re rs h fun d S1 φ1 H1 v x1 rs1 re1 rd k => k.nx (re1.set i rd) rs1

/-! ### what is walked -/
structure ItD where
  items : List D
  chk : Store → Prop
/-- J gives the items of it, from φ0, H0 on -/
structure WalkA (K : PySem.W.Frag) (φ0 : List Addr) (H0 : Hp) (J : It) (it : ItD) : Prop where
  go : ∀ i φ H S, i < it.items.length → Ext K φ0 H0 φ H → RS K H φ S → it.chk S → J.go i H
  stop : ∀ φ H S, Ext K φ0 H0 φ H → RS K H φ S → it.chk S → J.stop it.items.length H
  yld : ∀ i φ H S x H', i < it.items.length → Ext K φ0 H0 φ H → RS K H φ S → it.chk S → J.yld i H x H' → ∃ d, it.items[i]? = some d ∧ Ext K φ H φ H' ∧ RS K H' φ S ∧ RD K H' φ d x
abbrev MI := Env → Store → Res ItD
def LI (X : Cx) (W : WX) (m : MI) : TI := fun σ H R => ∃ φ ρ S, RE X.K H φ ρ σ ∧ RS X.K H φ S ∧ LK X W σ φ H (m ρ S) fun it S' φ' H' => ∀ J, WalkA X.K φ' H' J it → R J H'
abbrev SI (X : Cx) (W : WX) (tg iter : Expr) (m : MI) : Prop := PI X tg iter (LI X W m)
theorem _root_.L2.PI.imp {X : Cx} {tg e : Expr} {t t' : TI} (h : PI X tg e t) (i : ∀ σ H R, t' σ H R → t σ H R) : PI X tg e t' := ⟨fun pins s σ H R I q => h.run pins s σ H R I (i σ H R q)⟩
/-- over a tuple, a list -/
def iTupM (me : ME) : MI := fun ρ S => (me ρ S).bind fun d S1 => match d with
  | .tup xs => .ok ⟨xs, fun _ => True⟩ S1
  | _ => .bad
def iLstM (me : ME) : MI := fun ρ S => (me ρ S).bind fun d S1 => match d with
  | .ptr n => match S1[n]? with
    | some (.lst xs) => .ok ⟨xs, fun S => S[n]? = some (.lst xs)⟩ S1
    | some (.rol xs) => .ok ⟨xs, fun S => S[n]? = some (.rol xs)⟩ S1
    | _ => .bad
  | _ => .bad
theorem RDs.pt {K : PySem.W.Frag} {H : Hp} {φ : List Addr} {ds : List D} {vs : List V} {i : Nat} {v : V} (r : RDs K H φ ds vs) (e : vs[i]? = some v) : ∃ d, ds[i]? = some d ∧ RD K H φ d v := by
  have hi : i < ds.length := by rw [← r.length]; exact (List.getElem?_eq_some_iff.mp e).1
  obtain ⟨u, h1, h2⟩ := r.get (List.getElem?_eq_getElem hi)
  rw [e] at h1; cases h1
  exact ⟨_, List.getElem?_eq_getElem hi, h2⟩
theorem si_tup {tg : Expr} (he : SE X W e me) : SI X W tg e (iTupM me) := by
  refine (pi_tup he).imp fun σ H R => ?_
  rintro ⟨φ, ρ, S, re, rs, h⟩
  refine LE.to re rs h fun d S1 φ1 H1 v x1 rs1 re1 rd k => ?_
  split at k
  · unfold RD at rd
    obtain ⟨a, xs, rfl, s, q⟩ := rd
    refine ⟨a, rfl, ⟨xs, s⟩, k.ok rs1 _ ⟨fun i φ2 H2 S2 hi x2 rs2 _ => ?_, fun φ2 H2 S2 x2 rs2 _ => ?_, fun i φ2 H2 S2 x H' hi x2 rs2 _ y => ?_⟩⟩
    · have hi : i < xs.length := by rw [q.length]; exact hi
      exact ⟨xs, xs[i], x2.tup _ _ s, List.getElem?_eq_getElem hi⟩
    · exact ⟨xs, x2.tup _ _ s, Nat.le_of_eq q.length⟩
    · obtain ⟨e1, y⟩ := y
      subst e1
      obtain ⟨d, h1, h2⟩ := (q.mono x2).pt (y xs (x2.tup _ _ s))
      exact ⟨d, h1, Ext.refl, rs2, h2⟩
  · exact k.elim
theorem walk_lst {K : PySem.W.Frag} {φ0 : List Addr} {H0 : Hp} {n : Nat} {a : Addr} {ds : List D} {chk : Store → Prop} (ha : φ0[n]? = some a) (hc : ∀ S, chk S → S[n]? = some (.lst ds) ∨ S[n]? = some (.rol ds)) : WalkA K φ0 H0 (Itl K a) ⟨ds, chk⟩ := by
  have get : ∀ φ H S, Ext K φ0 H0 φ H → RS K H φ S → chk S → ∃ xs, SqL K H a xs ∧ RDs K H φ ds xs := fun φ H S x rs c => by
    obtain ⟨a', xs, q1, q2, q3⟩ := rs.seqL (hc S c)
    rw [x.pre _ _ ha] at q1; cases q1
    exact ⟨xs, q2, q3⟩
  refine ⟨fun i φ H S hi x rs c => ?_, fun φ H S x rs c => ?_, fun i φ H S v H' hi x rs c y => ?_⟩
  · obtain ⟨xs, s, q⟩ := get φ H S x rs c
    have hi : i < xs.length := by rw [q.length]; exact hi
    exact ⟨xs, xs[i], s, List.getElem?_eq_getElem hi⟩
  · obtain ⟨xs, s, q⟩ := get φ H S x rs c
    exact ⟨xs, s, Nat.le_of_eq q.length⟩
  · obtain ⟨xs, s, q⟩ := get φ H S x rs c
    obtain ⟨e1, y⟩ := y
    subst e1
    obtain ⟨d, h1, h2⟩ := q.pt (y xs s)
    exact ⟨d, h1, Ext.refl, rs, h2⟩
theorem si_lst {tg : Expr} (he : SE X W e me) : SI X W tg e (iLstM me) := by
  refine (pi_list he).imp fun σ H R => ?_
  rintro ⟨φ, ρ, S, re, rs, h⟩
  refine LE.to re rs h fun d S1 φ1 H1 v x1 rs1 re1 rd k => ?_
  split at k
  · rename_i n
    unfold RD at rd
    obtain ⟨a, ha, rfl⟩ := rd
    split at k
    · rename_i ds hS
      obtain ⟨a', xs, q1, q2, q3⟩ := rs1.seqL (.inl hS)
      rw [ha] at q1; cases q1
      exact ⟨a, rfl, ⟨xs, q2⟩, k.ok rs1 _ (walk_lst ha fun S c => .inl c)⟩
    · rename_i ds hS
      obtain ⟨a', xs, q1, q2, q3⟩ := rs1.seqL (.inr hS)
      rw [ha] at q1; cases q1
      exact ⟨a, rfl, ⟨xs, q2⟩, k.ok rs1 _ (walk_lst ha fun S c => .inr c)⟩
    · exact k.elim
  · exact k.elim
/-- range(n), range(a, b) -/
def rangeD (lo : Int) (n : Nat) : List D := (List.range n).map fun i => .int (lo + (i : Nat))
def iRngM1 (ms : MA) : MI := fun ρ S => (ms ρ S).bind fun xs S1 => match xs with
  | [.int j] => if -(2 ^ 62) ≤ j ∧ j < 2 ^ 62 then .ok ⟨rangeD 0 j.toNat, fun _ => True⟩ S1 else .bad
  | _ => .bad
def iRngM2 (ms : MA) : MI := fun ρ S => (ms ρ S).bind fun xs S1 => match xs with
  | [.int i, .int j] => if (-(2 ^ 62) ≤ i ∧ i < 2 ^ 62) ∧ (-(2 ^ 62) ≤ j ∧ j < 2 ^ 62) then .ok ⟨rangeD i (j - i).toNat, fun _ => True⟩ S1 else .bad
  | _ => .bad
theorem walk_rng {K : PySem.W.Frag} {φ0 : List Addr} {H0 : Hp} {lo : Int} {n : Nat} : WalkA K φ0 H0 (Itr lo n) ⟨rangeD lo n, fun _ => True⟩ := by
  have hl : (rangeD lo n).length = n := by unfold rangeD; rw [List.length_map, List.length_range]
  refine ⟨fun i φ H S hi x rs c => by rw [hl] at hi; exact hi, fun φ H S x rs c => by rw [hl]; exact Nat.le_refl _, fun i φ H S v H' hi x rs c y => ?_⟩
  obtain ⟨e1, y⟩ := y
  subst e1 y
  rw [hl] at hi
  refine ⟨.int (lo + (i : Nat)), ?_, Ext.refl, rs, rd_int⟩
  unfold rangeD
  rw [List.getElem?_map, List.getElem?_range hi]
  rfl
theorem si_range1 {tg a : Expr} {p pos : Pos} (hm : X.mg "range" = none) (ha : SA X W [a] ms) (hg : Gl X "range" := by rfl) (hs : starEach [a] X.env = [(false, eval a X.env)] := by rfl) : SI X W tg (.Call (.Name "range" p) [a] [] pos) (iRngM1 ms) := by
  refine (pi_range1 hg hm ha hs).imp fun σ H R => ?_
  rintro ⟨φ, ρ, S, re, rs, h⟩
  refine LA.to re rs h fun xs S1 φ1 H1 vs x1 rs1 re1 rd k => ?_
  split at k
  · obtain ⟨v, rfl, r1⟩ := rd.one
    unfold RD at r1; subst r1
    split at k
    · rename_i hz
      exact ⟨_, rfl, hz.1, hz.2, k.ok rs1 _ walk_rng⟩
    · exact k.elim
  · exact k.elim
theorem si_range2 {tg a b : Expr} {p pos : Pos} (hm : X.mg "range" = none) (ha : SA X W [a, b] ms) (hg : Gl X "range" := by rfl) (hs : starEach [a, b] X.env = [(false, eval a X.env), (false, eval b X.env)] := by rfl)
    (hs2 : starEach [b] X.env = [(false, eval b X.env)] := by rfl) : SI X W tg (.Call (.Name "range" p) [a, b] [] pos) (iRngM2 ms) := by
  refine (pi_range2 hg hm ha hs hs2).imp fun σ H R => ?_
  rintro ⟨φ, ρ, S, re, rs, h⟩
  refine LA.to re rs h fun xs S1 φ1 H1 vs x1 rs1 re1 rd k => ?_
  split at k
  · obtain ⟨v, u, rfl, r1, r2⟩ := rd.two
    unfold RD at r1 r2; subst r1 r2
    split at k
    · rename_i hz
      exact ⟨_, _, rfl, ⟨hz.1.1, hz.1.2, hz.2.1, hz.2.2⟩, k.ok rs1 _ walk_rng⟩
    · exact k.elim
  · exact k.elim

/-! ### for -/
open Classical in
noncomputable def forM (chk : Store → Prop) (g : MG) (body : MS) : List D → Env → Store → SRes
  | [], ρ, S => .next ρ S
  | x :: xs, ρ, S => match nxOnly (g x ρ S) with
    | .next ρ1 S1 => match body ρ1 S1 with
      | .next ρ2 S2 => if chk S2 then forM chk g body xs ρ2 S2 else .bad
      | .cont ρ2 S2 => if chk S2 then forM chk g body xs ρ2 S2 else .bad
      | .brk ρ2 S2 => .next ρ2 S2
      | r => r
    | r => r
open Classical in
noncomputable def sFor (mi : MI) (g : MG) (body : MS) : MS := fun ρ S => ofE (mi ρ S) ρ fun it S1 => if it.chk S1 then forM it.chk g body it.items ρ S1 else .bad
theorem ss_for {k : Nat} {tg iter : Expr} {body : List Stmt} {mi : MI} {g : MG} (c : Ctx X W k) (hi : SI X W tg iter mi) (hg : SG X W tg g) (hb : SSs X W body m) (hs : ∀ x, foldedSetIterable iter X.env x = pure x := by intro _; rfl) :
    SS X W (.For tg iter body [] pos) (sFor mi g m) := by
  refine (ps_for c.po c.calm hi hg hb hs).imp fun D σ H => ?_
  rintro ⟨φ, ρ, S, re, rs, h⟩
  refine ⟨φ, ρ, S, re, rs, (LKS.ofE re h).mono fun it S1 φ1 H1 x1 rs1 kk J wk => ?_⟩
  have hc : it.chk S1 := by
    by_cases hc : it.chk S1
    · exact hc
    · rw [if_neg hc] at kk; exact kk.elim
  rw [if_pos hc] at kk
  refine ⟨fun i mm σ H => mm = it.items.length - i ∧ i ≤ it.items.length ∧ ∃ φ ρ S, Ext X.K φ1 H1 φ H ∧ RS X.K H φ S ∧ RE X.K H φ ρ σ ∧ it.chk S ∧ LKS X W φ H (forM it.chk g m (it.items.drop i) ρ S) D,
    ⟨it.items.length, rfl, Nat.zero_le _, φ1, ρ, S1, Ext.refl, rs1, re.mono x1, hc, kk⟩, ?_⟩
  rintro i mm σ H ⟨rfl, hil, φ2, ρ2, S2, x2, rs2, re2, c2, k2⟩
  by_cases hlt : i < it.items.length
  · refine .inr ⟨wk.go i φ2 H S2 hlt x2 rs2 c2, fun σ' H' => ∃ φ ρ S, Ext X.K φ1 H1 φ H' ∧ RS X.K H' φ S ∧ RE X.K H' φ ρ σ' ∧ it.chk S ∧ LKS X W φ H' (forM it.chk g m (it.items.drop (i + 1)) ρ S) D,
      fun σ' H' hN => ⟨it.items.length - (i + 1), by omega, rfl, hlt, hN⟩, fun x H' y => ?_⟩
    obtain ⟨d, hd, x3, rs3, rd3⟩ := wk.yld i φ2 H S2 x H' hlt x2 rs2 c2 y
    refine ⟨φ2, ρ2, S2, d, re2.mono x3, rs3, rd3, ?_⟩
    have k3 := LKS.from x3 k2
    have hdr : it.items.drop i = d :: it.items.drop (i + 1) := by
      rw [List.drop_eq_getElem_cons hlt]
      have : it.items[i] = d := by rw [List.getElem?_eq_getElem hlt] at hd; exact Option.some.inj hd
      rw [this]
    rw [hdr] at k3
    unfold forM at k3
    cases hm : g d ρ2 S2 with
    | next ρ4 S4 =>
      rw [hm] at k3
      refine fun φ5 H5 σ5 x5 rs5 re5 => ⟨φ5, ρ4, S4, re5, rs5, ?_⟩
      have k5 := LKS.from x5 k3
      have xx : Ext X.K φ1 H1 φ5 H5 := (x2.trans x3).trans x5
      simp only [RL.nxOnly] at k5
      cases hb2 : m ρ4 S4 with
      | next ρ6 S6 =>
        rw [hb2] at k5
        by_cases c6 : it.chk S6
        · simp only [if_pos c6] at k5
          exact fun φ7 H7 σ7 x7 rs7 re7 => ⟨φ7, ρ6, S6, xx.trans x7, rs7, re7, c6, LKS.from x7 k5⟩
        · simp only [if_neg c6] at k5; exact k5.elim
      | cont ρ6 S6 =>
        rw [hb2] at k5
        by_cases c6 : it.chk S6
        · simp only [if_pos c6] at k5
          exact fun φ7 H7 σ7 x7 rs7 re7 => ⟨φ7, ρ6, S6, xx.trans x7, rs7, re7, c6, LKS.from x7 k5⟩
        · simp only [if_neg c6] at k5; exact k5.elim
      | brk ρ6 S6 => rw [hb2] at k5; exact k5
      | ret d S6 => rw [hb2] at k5; exact k5
      | exn a b S6 => rw [hb2] at k5; exact k5
      | bad => rw [hb2] at k5; exact k5.elim
    | exn a b S4 => rw [hm] at k3; exact k3
    | ret a S4 => rw [hm] at k3; exact k3.elim
    | brk a S4 => rw [hm] at k3; exact k3.elim
    | cont a S4 => rw [hm] at k3; exact k3.elim
    | bad => rw [hm] at k3; exact k3.elim
  · have e : i = it.items.length := by omega
    subst e
    refine .inl ⟨wk.stop φ2 H S2 x2 rs2 c2, ?_⟩
    rw [List.drop_length] at k2
    unfold forM at k2
    exact k2.nx re2 rs2

/-! ### while -/
def whileN (t : MT) (body : MS) : Nat → Env → Store → SRes
  | 0, _, _ => .bad
  | n + 1, ρ, S => ofE (t ρ S) ρ fun c S1 => if c then (match body ρ S1 with
      | .next ρ2 S2 => whileN t body n ρ2 S2
      | .cont ρ2 S2 => whileN t body n ρ2 S2
      | .brk ρ2 S2 => .next ρ2 S2
      | r => r) else .next ρ S1
/-- a while, by a bound of its turns (a number that the proof gives) -/
def sWhile (n : Env → Store → Nat) (t : MT) (body : MS) : MS := fun ρ S => whileN t body (n ρ S) ρ S
theorem ss_while {k : Nat} {body : List Stmt} {nn : Env → Store → Nat} (cc : Ctx X W k) (hc : ST X W c t) (hb : SSs X W body m) : SS X W (.While c body [] pos) (sWhile nn t m) := by
  refine (ps_while cc.po hc hb).imp fun D σ H => ?_
  rintro ⟨φ, ρ, S, re, rs, h⟩
  refine ⟨fun mm σ H => ∃ φ ρ S, RS X.K H φ S ∧ RE X.K H φ ρ σ ∧ LKS X W φ H (whileN t m mm ρ S) D, ⟨nn ρ S, φ, ρ, S, rs, re, h⟩, ?_⟩
  rintro mm σ H ⟨φ2, ρ2, S2, rs2, re2, k2⟩
  cases mm with
  | zero => unfold whileN at k2; exact k2.elim
  | succ mm =>
    unfold whileN at k2
    refine LT.toS re2 rs2 k2 fun d S3 φ3 H3 x3 rs3 re3 k3 => ?_
    cases d with
    | false => exact iteF (LKS.nx k3 re3 rs3)
    | true =>
      refine iteT ⟨fun σ' H' => ∃ φ ρ S, RS X.K H' φ S ∧ RE X.K H' φ ρ σ' ∧ LKS X W φ H' (whileN t m mm ρ S) D, fun σ' H' hN => ⟨mm, Nat.lt_succ_self _, hN⟩, φ3, ρ2, S3, re3, rs3, ?_⟩
      simp only [if_true] at k3
      cases hb2 : m ρ2 S3 with
      | next ρ6 S6 => rw [hb2] at k3; exact fun φ7 H7 σ7 x7 rs7 re7 => ⟨φ7, ρ6, S6, rs7, re7, LKS.from x7 k3⟩
      | cont ρ6 S6 => rw [hb2] at k3; exact fun φ7 H7 σ7 x7 rs7 re7 => ⟨φ7, ρ6, S6, rs7, re7, LKS.from x7 k3⟩
      | brk ρ6 S6 => rw [hb2] at k3; exact k3
      | ret d S6 => rw [hb2] at k3; exact k3
      | exn a b S6 => rw [hb2] at k3; exact k3
      | bad => rw [hb2] at k3; exact k3.elim
end
end RL

namespace RL
open PySem PySem.Spec PyProof.Rows L2

/-! ### list comprehensions -/
def noExn {α : Type} : Res α → Res α
  | .ok a S => .ok a S
  | _ => .bad
abbrev Bnd := D → Env → Option Env
def bNm (i : Nat) : Bnd := fun d ρ => some (ρ.set i (some d))
def bPr (i j : Nat) : Bnd := fun d ρ => match d with
  | .tup [a, b] => some ((ρ.set i (some a)).set j (some b))
  | _ => none
open Classical in
/-- the turns; what was made so far stands in cell n -/
noncomputable def compT (chk : Store → Prop) (bnd : Bnd) (t : MT) (e : ME) (n : Nat) (ρ : Env) : List D → Store → Res Unit
  | [], S => .ok () S
  | x :: xs, S => match bnd x ρ with
    | none => .bad
    | some ρ1 => (noExn (t ρ1 S)).bind fun b S2 =>
      if b then (noExn (e ρ1 S2)).bind fun y S3 => match S3[n]? with
        | some (.lst acc) => if acc.length < sizeLine ∧ chk (S3.set n (.lst (acc ++ [y]))) then compT chk bnd t e n ρ xs (S3.set n (.lst (acc ++ [y]))) else .bad
        | _ => .bad
      else if chk S2 then compT chk bnd t e n ρ xs S2 else .bad
open Classical in
noncomputable def eComp (mi : MI) (bnd : Bnd) (vs : List Nat) (t : MT) (e : ME) : ME := fun ρ S => (mi ρ S).bind fun it S1 =>
  if it.chk (S1 ++ [.lst []]) then (compT it.chk bnd t e S1.length (wipeE ρ vs) it.items (S1 ++ [.lst []])).bind fun _ S2 => .ok (.ptr S1.length) S2 else .bad
def tYesM : MT := fun _ S => .ok true S
/-- the wish within a block: nothing is raised there -/
abbrev W0 : WX := fun _ _ _ _ => False
abbrev blkX (X : Cx) (scope : Scope) (s : Shared) (H : Hp) (C : Addr) (cl : List (Str × Addr)) (fp : List Addr) : Cx := X.blk s H scope (compEnvC scope cl C X.env) fp
section
variable {X : Cx} {W : WX} {k : Nat}
theorem Ctx.blk (c : Ctx X W k) (scope : Scope) (s : Shared) (H : Hp) (C : Addr) (cl : List (Str × Addr)) (fp : List Addr) : Ctx (blkX X scope s H C cl fp) W0 k :=
  ⟨c.hr, takes0, c.calm, c.nd, c.gu, PassesOwn.never⟩
theorem LK.noExn {α : Type} {Y : Cx} {σ τ : L2.St} {φ : List Addr} {H : Hp} {r : Res α} {P : α → Store → List Addr → Hp → Prop} (hK : Y.K = X.K) (h : LK X W σ φ H (RL.noExn r) P) : LK Y W0 τ φ H r P := by
  cases r with
  | ok a S => intro φ' H' x rs; rw [hK] at x rs; exact h φ' H' x rs
  | exn x S => exact h.elim
  | bad => exact h.elim
theorem lk_bind_noExn {α β : Type} {Y : Cx} {σ τ : L2.St} {φ : List Addr} {H : Hp} {r : Res α} {f : α → Store → Res β} {P : β → Store → List Addr → Hp → Prop} (hK : Y.K = X.K) (h : LK X W σ φ H ((RL.noExn r).bind f) P) :
    LK Y W0 τ φ H r fun a S φ' H' => LK X W σ φ' H' (f a S) P := LK.noExn hK (LK.bind h)
variable {elt tg iter : Expr} {ifs : List Expr} {scope : Scope} {own : List (Str × Nat)} {pos : Pos} {mi : MI} {bnd : Bnd} {t : MT} {me : ME}
theorem comp_go {g : TG} {tt : TT} {te : TE} {vs : List Nat} {Y : Cx}
    (hK : Y.K = X.K) (hg : ∀ (d : D) (x : V) (σ : L2.St) (ρ ρ1 : Env) (φ : List Addr) (H : Hp) (Q : L2.St → Hp → Prop), RE X.K H φ ρ σ → RD X.K H φ d x → bnd d (wipeE ρ vs) = some ρ1 →
      (∀ σ2, wipe σ2 vs = wipe σ vs → RE X.K H φ ρ1 σ2 → Q σ2 H) → g x (wipe σ vs) H Q)
    (ht : ∀ σ H Q, LT Y W0 t σ H Q → tt σ H Q) (he : ∀ σ H Q, LE Y W0 me σ H Q → te σ H Q)
    {σ : L2.St} {H : Hp} {Q : VK} (h : LE X W (eComp mi bnd vs t me) σ H Q) : tLc (LI X W mi) g tt te vs σ H Q := by
  obtain ⟨φ, ρ, S, re, rs, h⟩ := h
  refine ⟨φ, ρ, S, re, rs, (LK.bind h).mono fun it S1 φ1 H1 x1 rs1 kk J wk D hD => ?_⟩
  obtain ⟨z1, z2, z3⟩ := od_newC rs1 (RDs.nil (K := X.K) (H := H1) (φ := φ1)) hD
  have hc : it.chk (S1 ++ [.lst []]) := by
    by_cases hc : it.chk (S1 ++ [.lst []])
    · exact hc
    · rw [if_neg hc] at kk; exact kk.elim
  rw [if_pos hc] at kk
  have hn0 : (φ1 ++ [D])[S1.length]? = some D := by rw [← rs1.len, List.getElem?_append_right (Nat.le_refl _), Nat.sub_self]; rfl
  refine ⟨fun i mm H => mm = it.items.length - i ∧ i ≤ it.items.length ∧ ∃ φ S, Ext X.K φ1 H1 φ H ∧ φ[S1.length]? = some D ∧ RS X.K H φ S ∧ it.chk S ∧
      LK X W σ φ H (compT it.chk bnd t me S1.length (wipeE ρ vs) (it.items.drop i) S) (fun _ S2 φ' H' => ∀ v, RD X.K H' φ' (.ptr S1.length) v → Q v H'),
    ⟨it.items.length, rfl, Nat.zero_le _, φ1 ++ [D], S1 ++ [.lst []], z2, hn0, z1, hc, by rw [List.drop_zero]; exact (LK.bind (LK.from z2 kk)).mono fun _ S2 φ' H' xx rr q => q.ok rr⟩, ?_⟩
  rintro i mm H ⟨rfl, hil, φ2, S2, x2, hn2, rs2, c2, k2⟩
  by_cases hlt : i < it.items.length
  · refine .inr ⟨wk.go i φ2 H S2 hlt x2 rs2 c2, fun H' => ∃ φ S, Ext X.K φ1 H1 φ H' ∧ φ[S1.length]? = some D ∧ RS X.K H' φ S ∧ it.chk S ∧
        LK X W σ φ H' (compT it.chk bnd t me S1.length (wipeE ρ vs) (it.items.drop (i + 1)) S) (fun _ S2 φ' H' => ∀ v, RD X.K H' φ' (.ptr S1.length) v → Q v H'),
      fun H' hN => ⟨it.items.length - (i + 1), by omega, rfl, hlt, hN⟩, fun x H' y => ?_⟩
    obtain ⟨d, hd, x3, rs3, rd3⟩ := wk.yld i φ2 H S2 x H' hlt x2 rs2 c2 y
    have hdr : it.items.drop i = d :: it.items.drop (i + 1) := by
      rw [List.drop_eq_getElem_cons hlt]
      have : it.items[i] = d := by rw [List.getElem?_eq_getElem hlt] at hd; exact Option.some.inj hd
      rw [this]
    have k3 := LK.from x3 k2
    rw [hdr] at k3
    unfold compT at k3
    have x23 := x2.trans x3
    cases hb : bnd d (wipeE ρ vs) with
    | none => rw [hb] at k3; exact k3.elim
    | some ρ1 =>
      rw [hb] at k3
      refine hg d x σ ρ ρ1 φ2 H' _ (re.mono (x1.trans x23)) rd3 hb fun σ2 hw re2 => ⟨hw, ht σ2 H' _ ⟨φ2, ρ1, S2, hK ▸ re2, hK ▸ rs3, (lk_bind_noExn hK k3).mono fun b S4 φ4 H4 x4 rs4 k4 => ?_⟩⟩
      rw [hK] at x4 rs4
      cases b with
      | false =>
        rw [if_neg Bool.false_ne_true] at k4 ⊢
        by_cases c4 : it.chk S4
        · rw [if_pos c4] at k4
          exact ⟨φ4, S4, x23.trans x4, x4.pre _ _ hn2, rs4, c4, k4⟩
        · rw [if_neg c4] at k4; exact k4.elim
      | true =>
        rw [if_pos rfl] at k4 ⊢
        refine he σ2 H4 _ ⟨φ4, ρ1, S4, hK ▸ (re2.mono x4), hK ▸ rs4, (lk_bind_noExn hK k4).mono fun y S5 φ5 H5 x5 rs5 k5 v rv => ?_⟩
        rw [hK] at x5 rs5 rv
        split at k5
        · rename_i acc hS
          split at k5
          · rename_i hz
            obtain ⟨a, q1, xs, q2, q3⟩ := rs5.at hS
            have e1 := x5.pre _ _ (x4.pre _ _ hn2)
            rw [q1] at e1; cases e1
            obtain ⟨w1, w2⟩ := rs5.write hS q1 q2 (q3.append (RDs.cons rv RDs.nil))
            exact ⟨xs, q2, by rw [q3.length]; exact hz.1, φ5, _, ((x23.trans x4).trans x5).trans w2, q1, w1, hz.2, LK.from w2 k5⟩
          · exact k5.elim
        · exact k5.elim
  · have e : i = it.items.length := by omega
    subst e
    refine .inl ⟨wk.stop φ2 H S2 x2 rs2 c2, ?_⟩
    rw [List.drop_length] at k2
    unfold compT at k2
    refine k2.ok rs2 _ ?_
    unfold RD
    exact ⟨D, hn2, rfl⟩
/-- [elt for x in iter], [elt for x in iter if t] -/
theorem se_comp {x : Str} {i : Nat} {ti : Pos} (c : Ctx X W k) (hi : SI X W (.Name x ti) iter mi) (ok : BlkOk X.N X.env.scope scope [(x, i)])
    (hg : ∀ s H C cl fp, PG (blkX X scope s H C cl fp) (.Name x ti) (gName i))
    (ht : ∀ s H C cl fp, PTs (blkX X scope s H C cl fp) ifs (LT (blkX X scope s H C cl fp) W0 t)) (he : ∀ s H C cl fp, SE (blkX X scope s H C cl fp) W0 elt me) (hs : ∀ x, foldedSetIterable iter X.env x = pure x := by intro _; rfl) :
    SE X W (.ListComp elt [⟨.Name x ti, iter, ifs, 0⟩] scope pos) (eComp mi (bNm i) [i] t me) := by
  refine (pe_lc (wi := LI X W mi) (g := gName i) (tt := LT X W0 t) (te := LE X W0 me) c.calm c.nd hi ok hg ht he hs).imp fun σ H Q h => ?_
  refine comp_go (Y := X) (t := t) (me := me) (bnd := bNm i) rfl (fun d x σ ρ ρ1 φ H Q re rd hb q => ?_) (fun _ _ _ h => h) (fun _ _ _ h => h) h
  cases hb
  refine q _ ?_ ((re.wipe [i]).set i rd)
  show ((σ.set i none).set i (some x)).set i none = σ.set i none
  rw [List.set_set, List.set_set]
/-- .. over pairs -/
theorem se_comp2 {x y : Str} {i j k' : Nat} {ti tj tp : Pos} (c : Ctx X W k) (hij : i ≠ j) (hi : SI X W (.Tuple [.Name x ti, .Name y tj] k' tp) iter mi) (ok : BlkOk X.N X.env.scope scope [(x, i), (y, j)])
    (hg : ∀ s H C cl fp, PG (blkX X scope s H C cl fp) (.Tuple [.Name x ti, .Name y tj] k' tp) (gTup X.K 2 (gCons (gName i) (gCons (gName j) gNil))))
    (ht : ∀ s H C cl fp, PTs (blkX X scope s H C cl fp) ifs (LT (blkX X scope s H C cl fp) W0 t)) (he : ∀ s H C cl fp, SE (blkX X scope s H C cl fp) W0 elt me) (hs : ∀ x, foldedSetIterable iter X.env x = pure x := by intro _; rfl) :
    SE X W (.ListComp elt [⟨.Tuple [.Name x ti, .Name y tj] k' tp, iter, ifs, 0⟩] scope pos) (eComp mi (bPr i j) [i, j] t me) := by
  refine (pe_lc (wi := LI X W mi) (g := gTup X.K 2 (gCons (gName i) (gCons (gName j) gNil))) (tt := LT X W0 t) (te := LE X W0 me) c.calm c.nd hi ok hg ht he hs).imp fun σ H Q h => ?_
  refine comp_go (Y := X) (t := t) (me := me) (bnd := bPr i j) rfl (fun d x σ ρ ρ1 φ H Q re rd hb q => ?_) (fun _ _ _ h => h) (fun _ _ _ h => h) h
  unfold bPr at hb
  split at hb
  · rename_i a b
    cases hb
    unfold RD at rd
    obtain ⟨p, xs, rfl, s, r⟩ := rd
    obtain ⟨v, u, rfl, r1, r2⟩ := r.two
    refine ⟨p, _, rfl, s, rfl, v, _, rfl, u, _, rfl, rfl, q _ ?_ (((re.wipe [i, j]).set i r1).set j r2)⟩
    show ((((((σ.set j none).set i none).set i (some v)).set j (some u)).set j none).set i none) = (σ.set j none).set i none
    generalize hA : List.set σ j none = A
    have hA2 : A.set j none = A := by rw [← hA, List.set_set]
    have e1 : (A.set i none).set i (some v) = A.set i (some v) := List.set_set ..
    have e2 : ((A.set i (some v)).set j (some u)).set j none = (A.set i (some v)).set j none := List.set_set ..
    have e3 : (A.set i (some v)).set j none = (A.set j none).set i (some v) := List.set_comm _ _ hij
    have e4 : (A.set i (some v)).set i none = A.set i none := List.set_set ..
    rw [e1, e2, e3, hA2, e4]
  · cases hb
end
end RL

namespace RL
open PySem PySem.Spec PyProof.Rows L2

/-! ### what a def is worth -/
def LKF (K : PySem.W.Frag) (mg : Str → Option Value) (φ : List Addr) (H : Hp) (r : Res D) (Q : VK) (E : XK) : Prop :=
  match r with
  | .ok d S' => ∀ φ' H' v, Ext K φ H φ' H' → RS K H' φ' S' → RD K H' φ' d v → Q v H'
  | .exn x S' => ∀ φ' H' cls dd, Ext K φ H φ' H' → RS K H' φ' S' → RX K H' φ' mg x cls dd → E cls dd H'
  | .bad => False
def SpF (K : PySem.W.Frag) (mg : Str → Option Value) (n : Nat) (F : Fn) : Sp := fun vs H Q E => ∃ φ ds S, RDs K H φ ds vs ∧ ds.length = n ∧ RS K H φ S ∧ LKF K mg φ H (F ds S) Q E
structure FnG (P : Program) (w : World) (K : PySem.W.Frag) (mg : Str → Option Value) (base : Heap) (k : Nat) (f : Addr) (fd : FuncData) (ps : List Str) (F : Fn) : Prop where
  run : ∀ (A : Around) (outer : List PySem.Env) (s : Shared) (H : Hp) (args : Args) (us : List Value) (vs : List V) (Q : VK) (E : XK), Room k A → A.guards = some [] → L2.Env0 P w K mg base A outer s H →
    BindsTo s fd args (ps.zip us) → Vals vs us → SpF K mg ps.length F vs H Q E → codeAny (model P w) A (.call (.ref f) args) (CR (L2.CX P w) outer P w H s Q E) s

theorem FnG.mono {P : Program} {w : World} {K : PySem.W.Frag} {mg : Str → Option Value} {base : Heap} {j k : Nat} {f : Addr} {fd : FuncData} {ps : List Str} {F : Fn} (G : FnG P w K mg base j f fd ps F) (h : j ≤ k) : FnG P w K mg base k f fd ps F :=
  ⟨fun A outer s H args us vs Q E hr => G.run A outer s H args us vs Q E (hr.mono h)⟩
def mBody (n : Nat) (b : MS) : Fn := fun ds S => match b (ds.map some ++ List.replicate (n - ds.length) none) S with
  | .next _ S' => .ok .non S'
  | .ret d S' => .ok d S'
  | .exn x _ S' => .exn x S'
  | _ => .bad
/-- the wish of a def's body -/
abbrev WD (E : XK) : WX := fun cls d _ H => E cls d H
section
variable {P : Program} {w : World} {K : PySem.W.Frag} {mg : Str → Option Value} {base : Heap}
theorem fn_sound {x qual : Str} {st : Stmt} {f : Addr} {fd : FuncData} {N ps : List Str} {k : Nat} {b : MS} (F : Fun K x qual st f fd) (S : FnScope N ps (defScope st))
    (hb : ∀ (cdv : Value) (A : Around) (outer : List PySem.Env) (s : Shared) (H : Hp) (E : XK),
      Ctx (cxOf (L2.CX P w) P w K mg base N qual (defScope st) f cdv A outer s H E) (WD E) k → SSs (cxOf (L2.CX P w) P w K mg base N qual (defScope st) f cdv A outer s H E) (WD E) (defBody st) b) :
    FnG P w K mg base (k + 1) f fd ps (mBody N.length b) := by
  obtain ⟨oc, od, kV, doc, pm, an, cdv, ct, osl, rfl, lk, hcd⟩ := F.ex
  refine ⟨fun A outer s₀ H args us vs Q E room gu env0 bnd rv sp => ?_⟩
  obtain ⟨φ, ds, St, rds, dlen, rs, want⟩ := sp
  have vlen : vs.length = ps.length := by rw [rds.length, dlen]
  have inK : K.In s₀.heap := env0.mod.kin.keeps fun a o h => (env0.bs a o h).1
  have noL : s₀.heap.NoLimit := env0.mod.nolimit.keeps fun a o h => (env0.bs a o h).1
  refine codeAny_call_function room.depth (inK _ _ lk) rfl S.co S.gen rfl (PySem.W.codeRec_of inK hcd) (bnd _ _ _ _ ?_)
  refine wpAny_newFunctionEnv_cells S.kind ?kinds fun en hen s₁ call => ?_
  case kinds =>
    rintro ⟨nm, val⟩ hm
    rcases S.par nm (List.of_mem_zip hm).1 with q | q
    · exact .inl q
    · exact .inr ⟨q, PySem.W.cellsFrom_some _ _ _ (.inl q)⟩
  subst hen
  refine ⟨noL.keeps call.toInCall.keep, codeAny_func ?_⟩
  have body := hb cdv A outer s₀ H E ⟨room.deeper _, takes_of rfl rfl rfl rfl, rfl, S.nd, gu, passes_of rfl⟩
  have inv := inv_start (CX := L2.CX P w) (E := E) (N := N) (cd := cdv) (f := f) (qual := qual) S room.hd env0 vlen rv call
  refine wpAny_mono (body.run [] s₁ (L2.start N vs) H { nx := fun _ H' => Q .non H', rt := Q } inv ⟨φ, ds.map some ++ List.replicate (N.length - ds.length) none, St, ?env, rs, ?goal⟩) ?_ (fun _ _ hx => hx)
  case env =>
    unfold L2.start
    rw [rds.length]
    exact RE.start _ rds
  case goal =>
    unfold mBody at want
    cases hbb : b (ds.map some ++ List.replicate (N.length - ds.length) none) St with
    | next ρ' S' => rw [hbb] at want; exact fun φ' H' σ' x z _ => want φ' H' .non x z rd_non
    | ret d S' => rw [hbb] at want; exact want
    | exn y ρ' S' => rw [hbb] at want; exact fun φ' H' σ' cls dd x z _ q => want φ' H' cls dd x z q
    | brk ρ' S' => rw [hbb] at want; exact want.elim
    | cont ρ' S' => rw [hbb] at want; exact want.elim
    | bad => rw [hbb] at want; exact want.elim
  · intro fl s' out
    cases fl with
    | ret u =>
      obtain ⟨v, σ', H', J, ru, q⟩ := out
      exact ⟨v, H', J.os, J.bare, J.base, J.hok, ru, q⟩
    | next =>
      obtain ⟨σ', H', J, q⟩ := out
      exact ⟨.non, H', J.os, J.bare, J.base, J.hok, rfl, q⟩
    | brk => obtain ⟨_, _, _, q⟩ := out; exact q.elim
    | cont => obtain ⟨_, _, _, q⟩ := out; exact q.elim
end

/-! ### calls of defs -/
def pickL {α : Type} (l : List α) : List Nat → List α
  | [] => []
  | i :: is => match l[i]? with
    | some a => a :: pickL l is
    | none => pickL l is
theorem RDs.pick {K : PySem.W.Frag} {H : Hp} {φ : List Addr} {ds : List D} {vs : List V} (r : RDs K H φ ds vs) : ∀ is, RDs K H φ (pickL ds is) (pickL vs is)
  | [] => RDs.nil
  | i :: is => by
    unfold pickL
    cases hd : ds[i]? with
    | some d =>
      obtain ⟨v, h1, h2⟩ := r.get hd
      rw [h1]
      exact RDs.cons h2 (r.pick is)
    | none =>
      have h1 : vs[i]? = none := by
        rw [List.getElem?_eq_none_iff] at hd ⊢
        rw [r.length]; exact hd
      rw [h1]
      exact r.pick is
theorem vals_pick {vs : List V} {us : List Value} (r : Vals vs us) : ∀ is, Vals (pickL vs is) (pickL us is)
  | [] => .nil
  | i :: is => by
    unfold pickL
    cases hd : vs[i]? with
    | some d =>
      obtain ⟨v, h1, h2⟩ := r.get hd
      rw [h1]
      exact .cons h2 (vals_pick r is)
    | none =>
      rw [r.none_of hd]
      exact vals_pick r is
section
variable {X : Cx} {W : WX} {k k' : Nat} {f : Addr} {fd : FuncData} {ps ks : List Str} {F : Fn} {x : Str} {p pos kpos : Pos} {e : Expr} {es : List Expr} {kws : List Keyword} {ms mk : MA} {me : ME} {nm : Option Str}
theorem run_fnG {pins : List (Addr × Obj)} {σ : L2.St} {φ : List Addr} {H : Hp} {s : Shared} {S : Store} {Q : VK} {args : Args} {us : List Value} {vs : List V} {ds : List D} (c : Ctx X W k') (G : FnG X.prog X.w X.K X.mg X.base k f fd ps F) (hk : k ≤ k')
    (bnd : BindsTo s fd args (ps.zip us)) (I : Inv X pins σ H s) (rv : Vals vs us) (rd : RDs X.K H φ ds vs) (hl : ds.length = ps.length) (rs : RS X.K H φ S) (h : LK X W σ φ H (F ds S) fun d _ φ' H' => ∀ v, RD X.K H' φ' d v → Q v H') :
    codeAny (model X.prog X.w) X.A (.call (.ref f) args) (callEnd (EP X pins σ Q) X.xe) s := by
  refine codeAny_mono (G.run X.A X.stack s H args us vs Q (WE W σ) (c.hr.mono hk) c.gu I.env0 bnd rv ⟨φ, ds, S, rd, hl, rs, ?_⟩) fun r s' hq => ?_
  · cases hF : F ds S with
    | ok d S' => rw [hF] at h; exact fun φ' H' v y z q => h φ' H' y z v q
    | exn y S' => rw [hF] at h; exact h
    | bad => rw [hF] at h; exact h
  · cases r with
    | error e => exact passAt c.tk σ pins H s e s' I hq
    | ok fl =>
      cases fl with
      | ret u => exact I.after hq
      | next => exact False.elim hq
      | brk => exact False.elim hq
      | cont => exact False.elim hq
/-- f of as many values as it has parameters -/
def eFn1 (n : Nat) (F : Fn) (ms : MA) : ME := fun ρ S => (ms ρ S).bind fun xs S1 => if xs.length = n then F xs S1 else .bad
/-- f(e, ..), all by position -/
theorem se_call (c : Ctx X W k') (G : FnG X.prog X.w X.K X.mg X.base k f fd ps F) (hk : k ≤ k') (hm : X.mg x = some (.ref f)) (kp : PySem.W.keepIn X.K (.ref f) = true) (hb : Binds X.K fd ps []) (n : Nat) (hn : n = ps.length)
    (ha : SA X W (e :: es) ms) (hg : Gl X x := by rfl) (hdb : (x == ("__debug__" : Str)) = false := by decide) (he : starEach (e :: es) X.env = (false, eval e X.env) :: starEach es X.env := by rfl) (hpl : (backTo pos (starEach es X.env)).any (·.1) = false := by rfl) :
    SE X W (.Call (.Name x p) (e :: es) [] pos) (eFn1 n F ms) := by
  refine ⟨fun pins s σ H Q I h => ?_⟩
  refine wpAny_Call_Name_kw (ld_glob I hg hm ?_ hdb)
  obtain ⟨φ, ρ, S, re, rs, h⟩ := h
  have go : LA X W ms σ H fun vs H1 => ∀ pins s1 us, Inv X pins σ H1 s1 → Vals vs us → codeAny (model X.prog X.w) X.A (.call (.ref f) ⟨us, []⟩) (callEnd (EP X pins σ Q) X.xe) s1 := by
    refine LA.to re rs h fun xs S1 φ1 H1 vs x1 rs1 re1 rx h1 pins1 s1 us I1 rv => ?_
    split at h1
    · rename_i hl
      have hl2 : us.length = ps.length := by rw [← rv.length, rx.length, hl, hn]
      refine run_fnG (us := us) c G hk ?_ I1 rv rx (hl.trans hn) rs1 h1
      have := hb s1 us I1.kIn (by rw [List.append_nil]; exact hl2)
      rw [List.append_nil] at this
      exact this
    · exact h1.elim
  exact PySem.W.callWith_K (h₀ := X.base) I.ok.mod.kin kp (thn (ha.run pos pins s σ H _ I go) fun us s1 ⟨vs, H1, I1, rv, q⟩ => ⟨I1.kIn, wpAny_call (q pins s1 us I1 rv)⟩) he hpl
/-- f() -/
theorem se_call0 (c : Ctx X W k') (G : FnG X.prog X.w X.K X.mg X.base k f fd [] F) (hk : k ≤ k') (hm : X.mg x = some (.ref f)) (kp : PySem.W.keepIn X.K (.ref f) = true) (hb : Binds X.K fd [] [])
    (hg : Gl X x := by rfl) (hdb : (x == ("__debug__" : Str)) = false := by decide) : SE X W (.Call (.Name x p) [] [] pos) (fun _ S => F [] S) := by
  refine ⟨fun pins s σ H Q I h => ?_⟩
  refine wpAny_Call_Name_kw (ld_glob I hg hm ?_ hdb)
  obtain ⟨φ, ρ, S, re, rs, h⟩ := h
  refine PySem.W.callWith_K0 I.kIn kp (wpAny_call (run_fnG (us := []) (vs := []) (ds := []) c G hk ?_ I .nil RDs.nil rfl rs h))
  exact hb s [] I.kIn rfl
/-! keywords: the places of the parameters among the positional, the keywords' and the default values -/
abbrev SK (X : Cx) (W : WX) (kws : List Keyword) (m : MA) : Prop := PK X kws (LA X W m)
theorem _root_.L2.PK.imp {X : Cx} {e : List Keyword} {t t' : TA} (h : PK X e t) (i : ∀ σ H Q, t' σ H Q → t σ H Q) : PK X e t' := ⟨fun pos pins s σ H Q I q => h.run pos pins s σ H Q I (i σ H Q q)⟩
theorem sk_nil : SK X W [] aNil := by
  refine pk_nil.imp fun σ H Q => ?_
  rintro ⟨φ, ρ, S, re, rs, h⟩
  exact h.ok rs [] RDs.nil
theorem sk_cons (ha : SE X W e me) (hr : SK X W kws ms) : SK X W (⟨nm, e, kpos⟩ :: kws) (aCons me ms) := by
  refine (pk_cons ha hr).imp fun σ H Q => ?_
  rintro ⟨φ, ρ, S, re, rs, h⟩
  exact LE.to re rs h fun x S1 φ1 H1 vx x1 rs1 re1 rx h1 => LA.to re1 rs1 h1 fun xs S2 φ2 H2 vs x2 rs2 re2 rxs h2 => h2.ok rs2 _ (RDs.cons (rx.mono x2) rxs)
/-- how a call binds: n values by position, the keywords ks, the defaults dus -/
def BindsK (K : PySem.W.Frag) (fd : FuncData) (ps ks : List Str) (n : Nat) (dus : List Value) (is : List Nat) : Prop :=
  ∀ (s : Shared) (us ws : List Value), K.In s.heap → us.length = n → ws.length = ks.length → BindsTo s fd ⟨us, ks.zip ws⟩ (ps.zip (pickL (us ++ ws ++ dus) is))
def eFnK (n m np : Nat) (is : List Nat) (dd : List D) (F : Fn) (ms mk : MA) : ME := fun ρ S => (ms ρ S).bind fun xs S1 => (mk ρ S1).bind fun ys S2 =>
  if xs.length = n ∧ ys.length = m ∧ (pickL (xs ++ ys ++ dd) is).length = np then F (pickL (xs ++ ys ++ dd) is) S2 else .bad
/-- a default value: no object -/
def flatD : D → V → Prop
  | .non, v => v = .non
  | .bl b, v => v = .bl b
  | .int i, v => v = .int i
  | .str s, v => v = .str s
  | _, _ => False
theorem flat_rd {K : PySem.W.Frag} {H : Hp} {φ : List Addr} {d : D} {v : V} (h : flatD d v) : RD K H φ d v := by
  cases d with
  | non => unfold RD; exact h
  | bl b => unfold RD; exact h
  | int b => unfold RD; exact h
  | str b => unfold RD; exact h
  | tup b => exact h.elim
  | ptr b => exact h.elim
theorem flat_rds {K : PySem.W.Frag} {H : Hp} {φ : List Addr} : ∀ {ds : List D} {vs : List V}, Paired flatD ds vs → RDs K H φ ds vs
  | _, _, .nil => RDs.nil
  | _, _, .cons h t => RDs.cons (flat_rd h) (flat_rds t)
theorem runK {pins : List (Addr × Obj)} {σ : L2.St} {φ φ2 : List Addr} {H H2 : Hp} {s : Shared} {S2 : Store} {Q : VK} {us ws dus : List Value} {vs zs dvs : List V} {xs ys dd : List D} {n m np : Nat} {is : List Nat} (c : Ctx X W k') (G : FnG X.prog X.w X.K X.mg X.base k f fd ps F) (hk : k ≤ k')
    (hb : BindsK X.K fd ps ks n dus is) (hd : Vals dvs dus) (hf : Paired flatD dd dvs) (hm : m = ks.length) (hp : np = ps.length) (I : Inv X pins σ H2 s) (rv : Vals vs us) (rz : Vals zs ws) (rx : RDs X.K H2 φ2 xs vs) (ry : RDs X.K H2 φ2 ys zs) (rs : RS X.K H2 φ2 S2)
    (h : LK X W σ φ2 H2 (if xs.length = n ∧ ys.length = m ∧ (pickL (xs ++ ys ++ dd) is).length = np then F (pickL (xs ++ ys ++ dd) is) S2 else .bad) fun d _ φ' H' => ∀ v, RD X.K H' φ' d v → Q v H') :
    codeAny (model X.prog X.w) X.A (.call (.ref f) ⟨us, ks.zip ws⟩) (callEnd (EP X pins σ Q) X.xe) s := by
  split at h
  · rename_i hl
    refine run_fnG (us := pickL (us ++ ws ++ dus) is) (vs := pickL (vs ++ zs ++ dvs) is) c G hk (hb s us ws I.kIn ?_ ?_) I (vals_pick ((rv.append rz).append hd) is) (((rx.append ry).append (flat_rds hf)).pick is) (hl.2.2.trans hp) rs h
    · rw [← rv.length, rx.length]; exact hl.1
    · rw [← rz.length, ry.length, ← hm]; exact hl.2.1
  · exact h.elim
theorem se_callK (c : Ctx X W k') (G : FnG X.prog X.w X.K X.mg X.base k f fd ps F) (hk : k ≤ k') (hm : X.mg x = some (.ref f)) (kp : PySem.W.keepIn X.K (.ref f) = true) {n m np : Nat} {is : List Nat} {dus : List Value} {dvs : List V} {dd : List D} (hb : BindsK X.K fd ps ks n dus is) (hd : Vals dvs dus) (hf : Paired flatD dd dvs)
    (hmm : m = ks.length) (hnp : np = ps.length) (ha : SA X W (e :: es) ms) (hkw : SK X W kws mk) (hall : (backToKw pos (keywordEach kws X.env)).all (·.1.isSome) = true := by rfl) (hks : (backToKw pos (keywordEach kws X.env)).filterMap (·.1) = ks := by rfl) (hg : Gl X x := by rfl) (hdb : (x == ("__debug__" : Str)) = false := by decide)
    (he : starEach (e :: es) X.env = (false, eval e X.env) :: starEach es X.env := by rfl) (hpl : ((backTo pos (starEach (e :: es) X.env)).any (·.1) || (backToKw pos (keywordEach kws X.env)).any (·.1.isNone)) = false := by rfl) :
    SE X W (.Call (.Name x p) (e :: es) kws pos) (eFnK n m np is dd F ms mk) := by
  refine ⟨fun pins s σ H Q I h => ?_⟩
  refine wpAny_Call_Name_kw (ld_glob I hg hm ?_ hdb)
  obtain ⟨φ, ρ, S, re, rs, h⟩ := h
  have go : LA X W ms σ H fun vs H1 => LA X W mk σ H1 fun zs H2 => ∀ pins s1 us ws, Inv X pins σ H2 s1 → Vals vs us → Vals zs ws → codeAny (model X.prog X.w) X.A (.call (.ref f) ⟨us, ks.zip ws⟩) (callEnd (EP X pins σ Q) X.xe) s1 :=
    LA.to re rs h fun xs S1 φ1 H1 vs x1 rs1 re1 rx h1 => LA.to re1 rs1 h1 fun ys S2 φ2 H2 zs x2 rs2 re2 ry h2 pins1 s1 us ws I1 rv rz =>
      runK (φ := φ) (H := H) c G hk hb hd hf hmm hnp I1 rv rz (rx.mono x2) ry rs2 h2
  refine PySem.W.callWith_KW (h₀ := X.base) I.ok.mod.kin kp hall (thn (ha.run pos pins s σ H _ I go) fun us s1 ⟨vs, H1, I1, rv, q⟩ => ?_) hpl he
  refine thn (hkw.run pos pins s1 σ H1 _ I1 q) fun ws s2 ⟨zs, H2, I2, rz, q2⟩ => ⟨I2.kIn, ?_⟩
  rw [hks]
  exact wpAny_call (q2 pins s2 us ws I2 rv rz)
theorem se_callK0 (c : Ctx X W k') (G : FnG X.prog X.w X.K X.mg X.base k f fd ps F) (hk : k ≤ k') (hm : X.mg x = some (.ref f)) (kp : PySem.W.keepIn X.K (.ref f) = true) {m np : Nat} {is : List Nat} {dus : List Value} {dvs : List V} {dd : List D} (hb : BindsK X.K fd ps ks 0 dus is) (hd : Vals dvs dus) (hf : Paired flatD dd dvs)
    (hmm : m = ks.length) (hnp : np = ps.length) (hkw : SK X W kws mk) (hall : (backToKw pos (keywordEach kws X.env)).all (·.1.isSome) = true := by rfl) (hks : (backToKw pos (keywordEach kws X.env)).filterMap (·.1) = ks := by rfl) (hg : Gl X x := by rfl) (hdb : (x == ("__debug__" : Str)) = false := by decide)
    (hpl : ((backTo pos (starEach [] X.env)).any (·.1) || (backToKw pos (keywordEach kws X.env)).any (·.1.isNone)) = false := by rfl) :
    SE X W (.Call (.Name x p) [] kws pos) (eFnK 0 m np is dd F aNil mk) := by
  refine ⟨fun pins s σ H Q I h => ?_⟩
  refine wpAny_Call_Name_kw (ld_glob I hg hm ?_ hdb)
  obtain ⟨φ, ρ, S, re, rs, h⟩ := h
  have h : LK X W σ φ H ((mk ρ S).bind fun ys S2 => if ([] : List D).length = 0 ∧ ys.length = m ∧ (pickL ([] ++ ys ++ dd) is).length = np then F (pickL ([] ++ ys ++ dd) is) S2 else .bad) fun d _ φ' H' => ∀ v, RD X.K H' φ' d v → Q v H' := h
  have go : LA X W mk σ H fun zs H2 => ∀ pins s1 ws, Inv X pins σ H2 s1 → Vals zs ws → codeAny (model X.prog X.w) X.A (.call (.ref f) ⟨[], ks.zip ws⟩) (callEnd (EP X pins σ Q) X.xe) s1 :=
    LA.to re rs h fun ys S2 φ2 H2 zs x2 rs2 re2 ry h2 pins1 s1 ws I1 rz =>
      runK (φ := φ) (H := H) c G hk hb hd hf hmm hnp I1 (us := []) (vs := []) .nil rz RDs.nil ry rs2 h2
  refine PySem.W.callWith_KW0 (h₀ := X.base) I.ok.mod.kin kp hall ?_ hpl
  refine thn (hkw.run pos pins s σ H _ I go) fun ws s2 ⟨zs, H2, I2, rz, q2⟩ => ⟨I2.kIn, ?_⟩
  rw [hks]
  exact wpAny_call (q2 pins s2 ws I2 rz)
end
end RL

namespace RL
open PySem PySem.Spec PyProof.Rows L2

/-! ### the law's call -/
/-- the law's def gives True, whatever the script -/
def LawTrue (n : Nat) (F : Fn) : Prop := ∀ ns : List Int, ns.length ≤ n → (∀ z ∈ ns, Builtin.Int.intBits z ≤ 1048576) → ∃ S', F [.ptr 0] [.rol (ns.map D.int)] = .ok (.bl true) S'
theorem rds_ints {K : PySem.W.Frag} {H : Hp} {φ : List Addr} : ∀ ns : List Int, RDs K H φ (ns.map D.int) (ns.map V.int)
  | [] => RDs.nil
  | n :: ns => RDs.cons rd_int (rds_ints ns)
theorem law_callG {P : Program} {w : World} {K : PySem.W.Frag} {mg mb : Str → Option Value} {k n : Nat} {fa a : Addr} {fd : FuncData} {x : Str} {F : Fn} {st : Shared} {vs : List Value} {ns : List Int}
    (inK : K.In st.heap) (nsG : st.heap.Ns mainGlobals mg) (nsB : st.heap.Ns builtinsNs mb) (isB : ∀ x : Str, x ≠ "__name__" → mb x = bootBuiltins x) (noL : st.heap.NoLimit) (noG : st.gens = #[])
    (obj : st.heap.get? a = some { cls := .type "list", data := .seq vs.toArray }) (areInts : IntsAre vs ns) (few : ns.length ≤ n) (line : n ≤ sizeLine) (bits : ∀ z ∈ ns, Builtin.Int.intBits z ≤ 1048576) (room : Room k callerA)
    (G : ∀ base : Heap, K.In base → base.Ns mainGlobals mg → FnG P w K mg base k fa fd [x] F) (bnd : ∀ (s : Shared) (u : Value), BindsTo s fd ⟨[u], []⟩ [(x, u)]) (true_ : LawTrue n F) :
    codeAny (model P w) callerA (.call (.ref fa) ⟨[.ref a], []⟩) (fun r s' => r = .ok (.ret (.bool true)) ∧ OldK st.heap s'.heap ∧ s'.os = st.os ∧ AllBare s'.gens) st := by
  have valsV := vals_ints areInts
  have sameLen := areInts.length
  obtain ⟨S', runs⟩ := true_ ns few bits
  -- by the abstract heap that tracks the script or nothing
  have core : ∀ (T : Hp), (∀ b, T b = none ∨ (b = a ∧ ∃ o, T b = some (.frz o (.lst (ns.map V.int))))) → RC K T [a] (.rol (ns.map D.int)) a → HOk P w T st.heap → (T a ≠ none → K.lookup a = none) →
      codeAny (model P w) callerA (.call (.ref fa) ⟨[.ref a], []⟩) (fun r s' => r = .ok (.ret (.bool true)) ∧ OldK st.heap s'.heap ∧ s'.os = st.os ∧ AllBare s'.gens) st := by
    intro T only cell ok apart
    have list_no_dict : ∀ {b : Addr} {o : Obj} {es : Array DictEntry} {ep : Nat}, st.heap.get? b = some o → o.data = .dict es ep → T b = none := by
      intro b o es ep hb hd
      rcases only b with h | ⟨rfl, _⟩
      · exact h
      · rw [obj] at hb
        cases hb
        have z : Data.seq vs.toArray _ = Data.dict es ep := hd
        cases z
    have hidNs : ∀ {b : Addr} {m : Str → Option Value}, st.heap.Ns b m → (hidT st.heap T).Ns b m := by
      rintro b m ⟨o, es, ep, hb, hd, rest⟩
      exact ⟨o, es, ep, hidT_get hb (list_no_dict hb hd), hd, rest⟩
    have hidK : K.In (hidT st.heap T) := by
      intro b o hb
      refine hidT_get (inK b o hb) ?_
      rcases only b with h | ⟨rfl, u, h⟩
      · exact h
      · have := apart (by rw [h]; exact fun z => by cases z)
        rw [this] at hb; cases hb
    obtain ⟨mc, lim1, lim2⟩ := noL
    have facts : Mod K mg (hidT st.heap T) := ⟨hidK, hidNs nsG, ⟨mb, hidNs nsB, isB⟩, ⟨mc, hidNs lim1, lim2⟩⟩
    have env0 : L2.Env0 P w K mg (hidT st.heap T) callerA [] st T :=
      { frames := rfl, mod := facts, bs := fun b o h => of_hidT h, bsz := Nat.le_of_eq (hidT_size _ _), funs := trivial, frf := fun b hb => (by cases hb), hok := ok, bare := .of_eq noG }
    have store : RS K T [a] [.rol (ns.map D.int)] := by
      refine ⟨rfl, fun m1 m2 b c c' h1 h2 _ _ q1 q2 => ?_, fun m c b h1 h2 => ?_⟩
      · cases m1 with
        | succ m1 => simp at h1
        | zero =>
          have : c = .rol (ns.map D.int) := by simpa using h1.symm
          subst this; cases q1
      · cases m with
        | succ m => simp at h1
        | zero =>
          have e1 : c = .rol (ns.map D.int) := by simpa using h1.symm
          have e2 : b = a := by simpa using h2.symm
          subst e1 e2
          exact cell
    have given : SpF K mg 1 F [.ref a] T (fun v _ => v = .bl true) (fun _ _ _ => False) := by
      refine ⟨[a], [.ptr 0], [.rol (ns.map D.int)], RDs.cons (by unfold RD; exact ⟨a, rfl, rfl⟩) RDs.nil, rfl, store, ?_⟩
      rw [runs]
      intro φ' H' v _ _ hv
      unfold RD at hv
      exact hv
    refine codeAny_mono ((G _ hidK (hidNs nsG)).run callerA [] st T ⟨[.ref a], []⟩ [.ref a] [.ref a] _ _ room rfl env0 (bnd st (.ref a)) (.cons rfl .nil) given) fun r s' out => ?_
    cases r with
    | error e =>
      obtain ⟨_, _, _, _, _, _, _, _, _, _, _, _, no⟩ := out
      exact no.elim
    | ok fl =>
      cases fl with
      | next => exact False.elim out
      | brk => exact False.elim out
      | cont => exact False.elim out
      | ret u =>
        obtain ⟨v, H', os, bare, un, hok', rel, eq⟩ := out
        have eq : v = .bl true := eq
        subst eq
        have rel : u = Value.bool true := rel
        subst rel
        refine ⟨rfl, OldK.of_keep fun b o hb => ?_, os, bare⟩
        rcases only b with h | ⟨_, u, h⟩
        · exact un.keep b o hb h (fun z => by cases z) (fun z => by cases z)
        · have there := un.frzs b u _ h
          have same1 : st.heap.get? b = some u := (ok b _ h).1
          have same2 : s'.heap.get? b = some u := (hok' b _ there).1
          rw [hb] at same1
          rw [same2, ← same1]
  cases look : K.lookup a with
  | none =>
    refine core (fun b => if b = a then some (.frz { cls := .type "list", data := .seq vs.toArray } (.lst (ns.map V.int))) else none) (fun b => ?_) ⟨ns.map V.int, .inl ⟨_, if_pos rfl⟩, rds_ints ns⟩ ?_ fun _ => look
    · by_cases hb : b = a
      · exact .inr ⟨hb, _, if_pos hb⟩
      · exact .inl (if_neg hb)
    · intro b o hb0
      have hb : (if b = a then some (HO.frz { cls := .type "list", data := .seq vs.toArray } (.lst (ns.map V.int))) else none) = some o := hb0
      clear hb0
      by_cases e : b = a
      · rw [if_pos e] at hb
        subst e
        cases hb
        exact ⟨obj, by rw [List.length_map]; exact Nat.le_trans few line, vs, _, valsV, obj⟩
      · rw [if_neg e] at hb
        cases hb
  | some o =>
    have there := inK a o look
    rw [obj] at there
    cases there
    refine core (fun _ => none) (fun _ => .inl rfl) ⟨ns.map V.int, .inr ⟨_, vs.toArray, _, look, rfl, rfl, rfl, ?_, by rw [List.toList_toArray]; exact valsV⟩, rds_ints ns⟩ (fun b o h => by cases h) fun h => absurd rfl h
    rw [List.size_toArray, sameLen]
    exact Nat.le_trans few line
/-- what k_head leaves, from the law's def -/
theorem walkG {l : PySem.W.OpenLaw} {n k : Nat} {q : Program} {loose : List Str} {XP : (Str → Option Value) → Heap → Prop} {YP : World → Heap → Prop} {d : DefRec} {K : Params → PySem.W.Frag} {x : Str} {F : Fn}
    (hn : l.most = some n) (line : n ≤ sizeLine) (nodef : d.params.defaults = []) (room : Room k callerA) (hY : ∀ (w : World) (h : Heap), YP w h → (K w.params).In h)
    (G : ∀ (w : World) (mg : Str → Option Value) (fa : Addr) (h : Heap), (K w.params).In h → h.Ns mainGlobals mg → mg d.name = some (.ref fa) →
      ∃ fd : FuncData, (∀ (s : Shared) (u : Value), BindsTo s fd ⟨[u], []⟩ [(x, u)]) ∧ ∀ base : Heap, (K w.params).In base → base.Ns mainGlobals mg → FnG l.prog w (K w.params) mg base k fa fd [x] F)
    (true_ : LawTrue n F) : PySem.W.WalkO q loose XP YP l.row.toRowW d [] (fun f vs => PySem.call f vs) := by
  refine Att.attach_callB hn nodef fun w s₀ s₁ mg mb fa o pm cd doc a vs ns GR Y _ _ _ isLaw isList areInts few bits noGen => ?_
  have kin := hY w _ Y
  obtain ⟨fd, bnd, promise⟩ := G w mg fa _ kin GR.T.g isLaw
  exact law_callG kin GR.T.g GR.T.b GR.T.builtins GR.T.nolimit noGen isList areInts few line bits room promise bnd true_
end RL

namespace RL
open PySem PySem.Spec PyProof.Rows L2

/-! ### repr -/
def Shows (prog : Program) (w : World) (h : Heap) (u : Value) (p : PyData) : Prop := (∃ as, Reads h u p as) ∧ ∃ bs, ReadAtMost h p.depth bs ∧ ReprK prog w bs h p.depth u p.shown
def ShowsAll (prog : Program) (w : World) (h : Heap) (us : List Value) (ps : List PyData) : Prop :=
  (∃ as, ReadsAll h us ps as) ∧ ∃ bs, ReadAtMost h (PyData.depthAll ps) bs ∧ ReprAllK prog w bs h (PyData.depthAll ps) us (PyData.shownAll ps)
section
variable {prog : Program} {w : World} {h : Heap}
theorem shows_nil : ShowsAll prog w h [] [] := ⟨⟨[], .nil⟩, [], (fun _ hm => nomatch hm), by simp only [PyData.shownAll]; exact .nil⟩
theorem shows_cons {u : Value} {p : PyData} {us : List Value} {ps : List PyData} (a : Shows prog w h u p) (b : ShowsAll prog w h us ps) : ShowsAll prog w h (u :: us) (p :: ps) := by
  obtain ⟨⟨as, ra⟩, x1, y1, z1⟩ := a
  obtain ⟨⟨bs, rb⟩, x2, y2, z2⟩ := b
  refine ⟨⟨as ++ bs, .cons ra rb⟩, x1 ++ x2, ?_, ?_⟩
  · simp only [PyData.depthAll]
    exact (y1.mono (Nat.le_max_left _ _)).append (y2.mono (Nat.le_max_right _ _))
  · simp only [PyData.depthAll, PyData.shownAll]
    refine .cons ((z1.more fun b m => List.mem_append_left _ m).level_le (Nat.le_max_left _ _)) ?_
    exact z2.more_le (fun b m => List.mem_append_right _ m) (Nat.le_max_right _ _)
theorem shows_flat {u : Value} {p : PyData} (r : ∃ as, Reads h u p as) (q : ReprIs prog w u p.shown) : Shows prog w h u p := ⟨r, [], (fun _ hm => nomatch hm), .of_is q _ _ _⟩
theorem shows_list {a : Addr} {o : Obj} {its : Array Value} {n : Nat} {ps : List PyData} (h1 : h.get? a = some o) (h2 : o.cls = .type "list") (h3 : o.data = .seq its n) (x : ShowsAll prog w h its.toList ps) : Shows prog w h (.ref a) (.list ps) := by
  obtain ⟨⟨as, ra⟩, bs, hb, hk⟩ := x
  have rd : Reads h (.ref a) (.list ps) _ := .list h1 h2 h3 ra
  have off : a ∉ bs := not_mem_of_deeper rd (by simp only [PyData.depth]; omega) hb
  refine ⟨⟨_, rd⟩, a :: bs, ReadAtMost.cons rd (by simp only [PyData.depth]; omega) hb, ?_⟩
  simp only [PyData.depth, PyData.shown]
  obtain ⟨l⟩ := its
  cases l with
  | nil =>
    have ra : ReadsAll h [] ps as := ra
    cases ra
    simp only [PyData.shownAll, listText_nil]
    exact ReprK.listEmpty h1 h2 h3
  | cons y l => exact ReprK.list h1 h2 h3 off (by rw [hk.length_eq]; simp) fun i z e => hk.item i z (by simpa using e)
theorem shows_tuple {a : Addr} {o : Obj} {its : Array Value} {n : Nat} {ps : List PyData} (h1 : h.get? a = some o) (h2 : o.cls = .type "tuple") (h3 : o.data = .seq its n) (x : ShowsAll prog w h its.toList ps) : Shows prog w h (.ref a) (.tuple ps) := by
  obtain ⟨⟨as, ra⟩, bs, hb, hk⟩ := x
  have rd : Reads h (.ref a) (.tuple ps) _ := .tuple h1 h2 h3 ra
  have off : a ∉ bs := not_mem_of_deeper rd (by simp only [PyData.depth]; omega) hb
  refine ⟨⟨_, rd⟩, a :: bs, ReadAtMost.cons rd (by simp only [PyData.depth]; omega) hb, ?_⟩
  simp only [PyData.depth, PyData.shown]
  exact ReprK.tuple h1 h2 h3 off hk
/-- what a dict's own call wants -/
structure DictShown (prog : Program) (w : World) (h : Heap) (a : Addr) (o : Obj) (es : Array DictEntry) (n : Nat) (kvs : List (PyData × PyData)) : Prop where
  at_ : h.get? a = some o
  cls : o.cls = .type "dict"
  data : o.data = .dict es n
  sys : (a == sysModules) = false
  keys : ShowsAll prog w h (es.toList.map (·.key)) (kvs.map (·.1))
  vals : ShowsAll prog w h (es.toList.map (·.val)) (kvs.map (·.2))
theorem DictShown.entries {a : Addr} {o : Obj} {es : Array DictEntry} {n : Nat} {kvs : List (PyData × PyData)} (x : DictShown prog w h a o es n kvs) :
    ∃ bs, ReadAtMost h (PyData.depthKv kvs) bs ∧ a ∉ bs ∧ (∃ as, Reads h (.ref a) (.dict kvs) as) ∧ ReprEntriesK prog w bs h (PyData.depthKv kvs) es.toList (PyData.shownKv kvs) := by
  obtain ⟨⟨as, ra⟩, b1, r1, k1⟩ := x.keys
  obtain ⟨⟨cs, rc⟩, b2, r2, k2⟩ := x.vals
  have rd : Reads h (.ref a) (.dict kvs) _ := .dict x.at_ x.cls x.data ra rc
  have few : ReadAtMost h (PyData.depthKv kvs) (b1 ++ b2) := (r1.mono (PyData.depthAll_keys_le kvs)).append (r2.mono (PyData.depthAll_vals_le kvs))
  refine ⟨b1 ++ b2, few, not_mem_of_deeper rd (by simp only [PyData.depth]; omega) few, ⟨_, rd⟩, ?_⟩
  rw [PyData.shownKv_eq]
  exact ReprEntriesK.of_two es.toList _ _ (k1.more_le (fun b m => List.mem_append_left _ m) (PyData.depthAll_keys_le kvs)) (k2.more_le (fun b m => List.mem_append_right _ m) (PyData.depthAll_vals_le kvs))
theorem shows_dict {a : Addr} {o : Obj} {es : Array DictEntry} {n : Nat} {kvs : List (PyData × PyData)} (x : DictShown prog w h a o es n kvs) : Shows prog w h (.ref a) (.dict kvs) := by
  obtain ⟨bs, few, off, ⟨as, rd⟩, ents⟩ := x.entries
  refine ⟨⟨_, rd⟩, a :: bs, ReadAtMost.cons rd (by simp only [PyData.depth]; omega) few, ?_⟩
  simp only [PyData.depth, PyData.shown]
  exact ReprK.dict x.at_ x.cls x.data x.sys off ents
end
section
variable {X : Cx} {pins : List (Addr × Obj)} {σ : L2.St} {H : Hp} {s : Shared} {φ : List Addr} {S : Store}
theorem shown_all_le : ∀ {ps : List PyData}, (∀ t ∈ PyData.shownAll ps, t.length ≤ sizeLine) → ∀ p ∈ ps, p.shown.length ≤ sizeLine
  | [], _, _, hp => nomatch hp
  | q :: ps, hz, p, hp => by
    rcases List.mem_cons.mp hp with e | hp
    · subst e; exact hz _ (by simp only [PyData.shownAll]; exact List.mem_cons_self ..)
    · exact shown_all_le (fun t ht => hz t (by simp only [PyData.shownAll]; exact List.mem_cons_of_mem _ ht)) p hp
theorem kids (k : Nat) (ih : ∀ (d : D) (v : V) (u : Value) (p : PyData), RD X.K H φ d v → RelV v u → deep S k d = some p → p.showable = true → p.shown.length ≤ sizeLine → Shows X.prog X.w s.heap u p) :
    ∀ (ds : List D) (vs : List V) (us : List Value) (ps : List PyData), RDs X.K H φ ds vs → Vals vs us → mapO (deep S k) ds = some ps → PyData.showableAll ps = true → (∀ p ∈ ps, p.shown.length ≤ sizeLine) → ShowsAll X.prog X.w s.heap us ps
  | [], _, _, _, r, q, e, _, _ => by
    unfold RDs at r; unfold mapO at e
    subst r; cases e; cases q
    exact shows_nil
  | d :: ds, _, _, _, r, q, e, sh, hz => by
    unfold RDs at r
    obtain ⟨v, vs', rfl, r1, r2⟩ := r
    obtain ⟨y, ys, h1, h2, rfl⟩ := mapO_cons e
    simp only [PyData.showableAll, Bool.and_eq_true] at sh
    cases q with
    | cons q1 q2 => exact shows_cons (ih d v _ y r1 q1 h1 sh.1 (hz y List.mem_cons_self)) (kids k ih ds vs' _ ys r2 q2 h2 sh.2 fun p hp => hz p (List.mem_cons_of_mem _ hp))
theorem key_shows {k : L2.Key} {u : Value} (hk : keyIs k u = true) (sh : (keyP k).showable = true) (hz : (keyP k).shown.length ≤ sizeLine) : Shows X.prog X.w s.heap u (keyP k) := by
  rcases keyIs_shape hk with ⟨i, t, rfl, rfl⟩ | ⟨x, t, rfl, rfl⟩
  · exact shows_flat ⟨_, .int i t⟩ (by simp only [keyP, PyData.shown]; exact ReprIs.int t (by simpa [keyP, PyData.showable] using sh))
  · exact shows_flat ⟨_, .str x t⟩ (by simp only [keyP, PyData.shown]; exact ReprIs.str x t (by simpa only [keyP, PyData.shown] using hz))
theorem kidsKv (k : Nat) (ih : ∀ (d : D) (v : V) (u : Value) (p : PyData), RD X.K H φ d v → RelV v u → deep S k d = some p → p.showable = true → p.shown.length ≤ sizeLine → Shows X.prog X.w s.heap u p) :
    ∀ (ds : List (L2.Key × D)) (ks : List (L2.Key × V)) (vs : List (L2.Key × Value)) (es : List DictEntry) (ps : List (PyData × PyData)), RKv X.K H φ ds ks → KV ks vs → Pairs (mixKind X.prog X.w) es vs →
      mapO (fun kv : L2.Key × D => (deep S k kv.2).map fun v => (keyP kv.1, v)) ds = some ps → PyData.showableKv ps = true → (∀ p ∈ ps, p.1.shown.length ≤ sizeLine ∧ p.2.shown.length ≤ sizeLine) →
      ShowsAll X.prog X.w s.heap (es.map (·.key)) (ps.map (·.1)) ∧ ShowsAll X.prog X.w s.heap (es.map (·.val)) (ps.map (·.2))
  | [], _, _, _, _, r, q, pr, e, _, _ => by
    unfold RKv at r; unfold mapO at e
    subst r; cases e
    cases q
    cases pr
    exact ⟨shows_nil, shows_nil⟩
  | (key, d) :: ds, _, _, _, _, r, q, pr, e, sh, hz => by
    unfold RKv at r
    obtain ⟨v, vs', rfl, r1, r2⟩ := r
    obtain ⟨y, ys, h1, h2, rfl⟩ := mapO_cons e
    cases q with
    | cons q1 q2 =>
      cases pr with
      | cons p1 p2 p3 =>
        obtain ⟨q1a, q1b⟩ := q1
        cases hd : deep S k d with
        | none => rw [hd] at h1; cases h1
        | some p =>
          rw [hd] at h1
          cases h1
          simp only [PyData.showableKv, Bool.and_eq_true] at sh
          obtain ⟨z1, z2⟩ := hz _ List.mem_cons_self
          have rest := kidsKv k ih ds vs' _ _ ys r2 q2 p3 h2 sh.2 fun p hp => hz p (List.mem_cons_of_mem _ hp)
          simp only at q1a q1b
          refine ⟨shows_cons (key_shows (by rw [q1a]; exact p1) sh.1.1 z1) rest.1, shows_cons ?_ rest.2⟩
          have here := ih d v _ p r1 q1b hd sh.1.2 z2
          rw [← p2] at here
          exact here
theorem list_part {ps : List PyData} (hz : (PyData.list ps).shown.length ≤ sizeLine) : ∀ p ∈ ps, p.shown.length ≤ sizeLine :=
  shown_all_le fun t ht => Nat.le_trans (listText_mem_le ht) (by simpa only [PyData.shown] using hz)
theorem tuple_part {ps : List PyData} (hz : (PyData.tuple ps).shown.length ≤ sizeLine) : ∀ p ∈ ps, p.shown.length ≤ sizeLine :=
  shown_all_le fun t ht => Nat.le_trans (tupleText_mem_le ht) (by simpa only [PyData.shown] using hz)
theorem dict_part {ps : List (PyData × PyData)} (hz : (PyData.dict ps).shown.length ≤ sizeLine) : ∀ p ∈ ps, p.1.shown.length ≤ sizeLine ∧ p.2.shown.length ≤ sizeLine := by
  have hz : (dictText (PyData.shownKv ps)).length ≤ sizeLine := by simpa only [PyData.shown] using hz
  have a1 : ∀ t ∈ PyData.shownAll (ps.map (·.1)), t.length ≤ sizeLine := fun t ht => let ⟨q, hq, hl⟩ := PyData.shownKv_key_le ps t ht; Nat.le_trans hl (Nat.le_trans (dictText_mem_le hq) hz)
  have a2 : ∀ t ∈ PyData.shownAll (ps.map (·.2)), t.length ≤ sizeLine := fun t ht => let ⟨q, hq, hl⟩ := PyData.shownKv_val_le ps t ht; Nat.le_trans hl (Nat.le_trans (dictText_mem_le hq) hz)
  exact fun p hp => ⟨shown_all_le a1 p.1 (List.mem_map_of_mem hp), shown_all_le a2 p.2 (List.mem_map_of_mem hp)⟩
/-- what stands at a value that is an object -/
inductive Made (X : Cx) (h : Heap) : Value → PyData → Prop where
  | list {a : Addr} {o : Obj} {its : Array Value} {n : Nat} {ps : List PyData} : h.get? a = some o → o.cls = .type "list" → o.data = .seq its n → ShowsAll X.prog X.w h its.toList ps → Made X h (.ref a) (.list ps)
  | tuple {a : Addr} {o : Obj} {its : Array Value} {n : Nat} {ps : List PyData} : h.get? a = some o → o.cls = .type "tuple" → o.data = .seq its n → ShowsAll X.prog X.w h its.toList ps → Made X h (.ref a) (.tuple ps)
  | dict {a : Addr} {o : Obj} {es : Array DictEntry} {n : Nat} {kvs : List (PyData × PyData)} : DictShown X.prog X.w h a o es n kvs → Made X h (.ref a) (.dict kvs)
  | none : Made X h .none .none
  | bool {b : Bool} : Made X h (.bool b) (.bool b)
  | int {i : Int} {t : Tok} : Made X h (.int i t) (.int i)
  | str {x : Str} {t : Tok} : Made X h (.str x t) (.str x)
theorem Made.shows {h : Heap} {u : Value} {p : PyData} (m : Made X h u p) (sh : p.showable = true) (hz : p.shown.length ≤ sizeLine) : Shows X.prog X.w h u p := by
  cases m with
  | list h1 h2 h3 x => exact shows_list h1 h2 h3 x
  | tuple h1 h2 h3 x => exact shows_tuple h1 h2 h3 x
  | dict x => exact shows_dict x
  | none => exact shows_flat ⟨_, .none⟩ (by simp only [PyData.shown]; exact ReprIs.none)
  | bool => exact shows_flat ⟨_, .bool _⟩ (by simp only [PyData.shown]; exact ReprIs.bool _)
  | int => exact shows_flat ⟨_, .int _ _⟩ (by simp only [PyData.shown]; exact ReprIs.int _ (by simpa [PyData.showable] using sh))
  | str => exact shows_flat ⟨_, .str _ _⟩ (by simp only [PyData.shown]; exact ReprIs.str _ _ (by simpa only [PyData.shown] using hz))
theorem made_deep (I : Inv X pins σ H s) (rs : RS X.K H φ S) : ∀ (k : Nat) (d : D) (v : V) (u : Value) (p : PyData), RD X.K H φ d v → RelV v u → deep S k d = some p → p.showable = true → p.shown.length ≤ sizeLine → Made X s.heap u p
  | 0, _, _, _, _, _, _, e, _, _ => by unfold deep at e; cases e
  | k + 1, .non, v, u, p, r, q, e, _, _ => by unfold deep at e; unfold RD at r; cases e; subst r; cases q; exact .none
  | k + 1, .bl b, v, u, p, r, q, e, _, _ => by unfold deep at e; unfold RD at r; cases e; subst r; cases q; exact .bool
  | k + 1, .int b, v, u, p, r, q, e, _, _ => by unfold deep at e; unfold RD at r; cases e; subst r; obtain ⟨t, rfl⟩ := q; exact .int
  | k + 1, .str b, v, u, p, r, q, e, _, _ => by unfold deep at e; unfold RD at r; cases e; subst r; obtain ⟨t, rfl⟩ := q; exact .str
  | k + 1, .tup ds, v, u, p, r, q, e, sh, hz => by
    unfold deep at e; unfold RD at r
    obtain ⟨a, xs, rfl, h1, h2⟩ := r
    cases q
    cases hm : mapO (deep S k) ds with
    | none => rw [hm] at e; cases e
    | some ps =>
      rw [hm] at e; cases e
      obtain ⟨its, rv, ⟨o, ho, hc, n, hd⟩, _⟩ := I.tuple h1
      exact .tuple ho hc hd (kids k (fun d v u p r q e sh hz => (made_deep I rs k d v u p r q e sh hz).shows sh hz) ds xs _ ps h2 (by simpa using rv) hm (by simpa [PyData.showable] using sh) (tuple_part hz))
  | k + 1, .ptr n, v, u, p, r, q, e, sh, hz => by
    unfold deep at e; unfold RD at r
    obtain ⟨a, ha, rfl⟩ := r
    cases q
    split at e
    · rename_i ds hS
      cases hm : mapO (deep S k) ds with
      | none => rw [hm] at e; cases e
      | some ps =>
        rw [hm] at e; cases e
        obtain ⟨a', xs, h0, h1, h2⟩ := rs.seqL (.inl hS)
        rw [ha] at h0; cases h0
        obtain ⟨its, rv, ⟨o, n, ho, hc, _, hd⟩, _⟩ := I.list h1
        exact .list ho hc hd (kids k (fun d v u p r q e sh hz => (made_deep I rs k d v u p r q e sh hz).shows sh hz) ds xs _ ps h2 (by simpa using rv) hm (by simpa [PyData.showable] using sh) (list_part hz))
    · rename_i ds hS
      cases hm : mapO (deep S k) ds with
      | none => rw [hm] at e; cases e
      | some ps =>
        rw [hm] at e; cases e
        obtain ⟨a', xs, h0, h1, h2⟩ := rs.seqL (.inr hS)
        rw [ha] at h0; cases h0
        obtain ⟨its, rv, ⟨o, n, ho, hc, _, hd⟩, _⟩ := I.list h1
        exact .list ho hc hd (kids k (fun d v u p r q e sh hz => (made_deep I rs k d v u p r q e sh hz).shows sh hz) ds xs _ ps h2 (by simpa using rv) hm (by simpa [PyData.showable] using sh) (list_part hz))
    · rename_i ds hS
      cases hm : mapO (fun kv : L2.Key × D => (deep S k kv.2).map fun v => (keyP kv.1, v)) ds with
      | none => rw [hm] at e; cases e
      | some ps =>
        rw [hm] at e; cases e
        obtain ⟨a', h0, xs, h1, h2⟩ := rs.at hS
        rw [ha] at h0; cases h0
        obtain ⟨_, hsys, vs, rv, o, es, ep, ho, hx, hd, _, hp, _⟩ := I.hok a _ h1
        obtain ⟨k1, k2⟩ := kidsKv k (fun d v u p r q e sh hz => (made_deep I rs k d v u p r q e sh hz).shows sh hz) ds xs vs es.toList ps h2 rv hp hm (by simpa [PyData.showable] using sh) (dict_part hz)
        exact .dict ⟨ho, hx.1, hd, hsys, k1, k2⟩
    · cases e
theorem call_repr_made {A : Around} {E : Value → Shared → Prop} {u : Value} {p : PyData} {Q : Value → Shared → Prop} (m : Made X s.heap u p) (sh : p.showable = true) (hz : p.shown.length ≤ sizeLine) (hg : A.guards = some []) (hu : A.units + (p.depth + 1) < cLine)
    (q : ∀ h' u tk, (∀ b o, s.heap.get? b = some o → h'.get? b = some o) → Q (.str p.shown u) { s with heap := h', toks := tk }) : wpAny (model X.prog X.w) A (call (.builtin "repr") [u]) Q E s := by
  cases m with
  | none => simp only [PyData.shown] at q; exact PySem.P.repr_of_none (q s.heap _ _ fun _ _ e => e)
  | bool => simp only [PyData.shown] at q; exact PySem.P.repr_of_bool (q s.heap _ _ fun _ _ e => e)
  | int => simp only [PyData.shown] at q; exact PySem.P.repr_of_int (by simpa [PyData.showable] using sh) (q s.heap _ _ fun _ _ e => e)
  | str => simp only [PyData.shown] at q hz; exact PySem.P.repr_of_str (q s.heap _ _ fun _ _ e => e) hz
  | @list a o its n ps h1 h2 h3 x =>
    obtain ⟨⟨as, ra⟩, bs, hb, hk⟩ := x
    have off : a ∉ bs := not_mem_of_deeper (.list h1 h2 h3 ra) (by simp only [PyData.depth]; omega) hb
    simp only [PyData.depth] at hu
    simp only [PyData.shown] at q hz
    refine call_repr_slot (by omega) ⟨o, h1, h2⟩ F.slot_list_repr.toG ?_
    obtain ⟨l⟩ := its
    cases l with
    | nil =>
      have ra : ReadsAll s.heap [] ps as := ra
      cases ra
      simp only [PyData.shownAll, listText_nil] at q
      exact call_list_repr_empty ⟨o, h1, h2⟩ h1 h3 ⟨_, _, rfl, q s.heap _ _ fun _ _ e => e⟩
    | cons y l =>
      exact call_list_reprK h1 h2 h3 off (by rw [hk.length_eq]; simp) (fun i z e => hk.item i z (by simpa using e)) (A := A.in1) hg (fun b _ => Clear.nil b) (by show A.units + 1 + _ < cLine; omega) (fun _ _ e => e) (fun h' u tk hk' => ⟨_, _, rfl, q h' u tk hk'⟩) hz
  | @tuple a o its n ps h1 h2 h3 x =>
    obtain ⟨⟨as, ra⟩, bs, hb, hk⟩ := x
    have off : a ∉ bs := not_mem_of_deeper (.tuple h1 h2 h3 ra) (by simp only [PyData.depth]; omega) hb
    simp only [PyData.depth] at hu
    simp only [PyData.shown] at q hz
    exact call_repr_slot (by omega) ⟨o, h1, h2⟩ F.slot_tuple_repr (call_tuple_reprK h1 h2 h3 off hk (A := A.in1) hg (fun b _ => Clear.nil b) (by show A.units + 1 + _ < cLine; omega) (fun _ _ e => e) (fun h' u tk hk' => ⟨_, _, rfl, q h' u tk hk'⟩) hz)
  | @dict a o es n kvs x =>
    obtain ⟨bs, few, off, _, ents⟩ := x.entries
    simp only [PyData.depth] at hu
    simp only [PyData.shown] at q hz
    exact call_repr_slot (by omega) ⟨o, x.at_, x.cls⟩ F.slot_dict_repr (call_dict_reprK x.at_ x.cls x.data x.sys off ents (A := A.in1) hg (fun b _ => Clear.nil b) (by show A.units + 1 + _ < cLine; omega) (fun _ _ e => e) (fun h' u tk hk' => ⟨_, _, rfl, q h' u tk hk'⟩) hz)
end
/-- repr(x) -/
def fRepr : Fn
  | [d], S => match deep S deepLine d with
    | some p => if p.showable = true ∧ p.shown.length ≤ sizeLine ∧ p.depth ≤ 60 then .ok (.str p.shown) S else .bad
    | none => .bad
  | _, _ => .bad
def rRepr (K : PySem.W.Frag) : List V → Hp → VK → Prop := fun xs H Q => ∃ d v p φ S, xs = [v] ∧ RS K H φ S ∧ RD K H φ d v ∧ deep S deepLine d = some p ∧ p.showable = true ∧ p.shown.length ≤ sizeLine ∧ p.depth ≤ 60 ∧ Q (.str p.shown) H
section
variable {X : Cx} {W : WX} {k : Nat}
theorem call_repr (c : Ctx X W k) : CallR X (.builtin "repr") (rRepr X.K) := by
  intro pins s σ H xs us Q I r h
  obtain ⟨d, v, p, φ, S, rfl, rs, rd, e, sh, hz, dp, q⟩ := h
  obtain ⟨u, rfl, ru⟩ := vals1 r
  refine call_repr_made (made_deep I rs _ d v u p rd ru e sh hz) sh hz c.gu (by have := c.hr.units; omega) fun h' t tk keep => ?_
  exact ⟨.str p.shown, H, I.kept (t' := tk) keep, ⟨t, rfl⟩, q⟩
theorem cd_repr : CallD X (rRepr X.K) fRepr := by
  intro W σ φ H S xs vs Q rs r h
  unfold fRepr at h
  split at h
  · obtain ⟨v, rfl, rx⟩ := r.one
    split at h
    · rename_i p hp
      split at h
      · rename_i hz
        exact ⟨_, v, p, φ, S, rfl, rs, rx, hp, hz.1, hz.2.1, hz.2.2, h.ok rs _ rd_str⟩
      · exact h.elim
    · exact h.elim
  · exact h.elim
end
end RL

namespace RL
open PySem PySem.Spec PyProof.Rows L2 PySem.W PySem.SeqAt

/-! ### sorted -/
section
variable {prog : Program} {w : World} {A : Around} {E : Value → Shared → Prop} {s : Shared}
theorem oneLt_data {f : Bool} {da db : PyData} {a b : Value} {as bs : List Addr} {Q : Bool → Shared → Prop} (ra : Reads s.heap a da as) (rb : Reads s.heap b db bs) (h : alike da db = true) (hn : da ≠ .none)
    (hu : A.units + min da.depth db.depth < cLine) (hq : Q (dataLt da db) s) : wpAny (model prog w) A (oneLt' f a b) Q E s := by
  cases da with
  | tuple xs =>
    cases f with
    | false => exact oneLt_alike (fun z => by cases z) ra rb h hn hu hq
    | true =>
      cases db with
      | tuple ys =>
        have all : alikeAll xs ys = true := by simpa [alike] using h
        cases ra with
        | @tuple l o vs n _ as₁ g1 g2 g3 g4 =>
          cases rb with
          | @tuple l' o' vs' n' _ bs₁ k1 k2 k3 k4 =>
            have m1 : vs.size = xs.length := by simpa using SeqAt.ReadsAll.length _ _ _ g4
            have m2 : vs'.size = ys.length := by simpa using SeqAt.ReadsAll.length _ _ _ k4
            rw [dataLt_tuple, ← firstLt_toks xs ys all, ← m1, ← m2] at hq
            obtain ⟨cls, dd, data, sl⟩ := o
            obtain ⟨cls2, dd2, data2, sl2⟩ := o'
            simp only at g2 g3 k2 k3
            subst g2 g3 k2 k3
            rw [oneLt'_eq]
            simp only [if_true]
            have room2 : A.units + 1 + PyData.depthAll xs < cLine ∨ A.units + 1 + PyData.depthAll ys < cLine := by
              simp only [PyData.depth] at hu
              omega
            refine wpAny_bind (wpAny_cRoomFor (by simp only [PyData.depth] at hu; omega) ?_)
            refine wpAny_bind (wpAny_callSpecialIfBound?_slot (T := "tuple") ⟨_, g1, rfl⟩ F.slot_tuple_lt (call_meets F.slot_tuple_lt ⟨_, g1, rfl⟩ F.entry_tuple_lt (F.args_tuple_lt_2 _ _)
              (tuple_ltAt l l' vs vs' n n' dd dd2 sl sl2 (pairEq xs ys) (fun j => dataLt (xs.getD j .none) (ys.getD j .none))) ⟨g1, k1, fun j j1 j2 => ?_, fun j j1 j2 hj => ?_, ?_⟩))
            · have := eqAt_alikeAll xs ys A.in1 s vs.toList vs'.toList _ _ g4 k4 all (by show A.units + 1 + _ < cLine; simp only [PyData.depth] at hu; omega) j (by simpa using j1) (by simpa using j2)
              simpa using this
            · have := rcLt_alikeAll xs ys A.in1 s vs.toList vs'.toList _ _ g4 k4 all (by show A.units + 1 + _ < cLine; simp only [PyData.depth] at hu; omega) j (by simpa using j1) (by simpa using j2) hj
              simpa using this
            · exact wpAny_truthy_bool hq
      | _ => exact absurd h (by simp [alike])
  | _ => exact oneLt_alike (fun _ _ z => by cases z) ra rb h hn hu hq

/-- tuples, empty ones among them: the first items -/
theorem firsts_any : ∀ {vs : List Value} {ds : List PyData}, EachIs (fun v d => ∃ as, Reads s.heap v d as) vs ds → (∀ d ∈ ds, ∃ xs, d = PyData.tuple xs) →
    ∃ fs : List (Option Value), fs.length = vs.length ∧ (fs.map Option.isSome = ds.map fun d => match d with | .tuple (_ :: _) => true | _ => false) ∧
      ∀ (M : Model) (A : Around) (E : Value → Shared → Prop) (Q : List (Option Value) → Shared → Prop), Q fs s → wpAny M A (vs.mapM firstOfTuple') Q E s
  | _, _, .nil, _ => ⟨[], rfl, rfl, fun M A E Q h => by rw [List.mapM_nil]; exact wpAny_pure h⟩
  | _, _, .cons (a := v) (b := d) r t, hd => by
    obtain ⟨fs, l1, l2, l3⟩ := firsts_any t fun d hm => hd d (List.mem_cons_of_mem _ hm)
    obtain ⟨xs, rfl⟩ := hd _ List.mem_cons_self
    obtain ⟨as, r⟩ := r
    cases r with
    | @tuple a o vs' n _ _ g1 g2 g3 g4 =>
      refine ⟨vs'[0]? :: fs, by rw [List.length_cons, List.length_cons, l1], ?_, fun M A E Q h => ?_⟩
      · rw [List.map_cons, List.map_cons, l2]
        congr 1
        obtain ⟨l⟩ := vs'
        cases g4' : l with
        | nil =>
          subst g4'
          have g4 : ReadsAll s.heap [] xs _ := g4
          cases g4
          rfl
        | cons y l' =>
          subst g4'
          have g4 : ReadsAll s.heap (y :: l') xs _ := g4
          cases g4
          rfl
      · rw [List.mapM_cons]
        refine wpAny_bind ?_
        rw [kas_first_eq]
        refine wpAny_bind (Looks.here (show Looks M s.heap (typeOf (.ref a)) o.cls from (Looks.ld g1).andThen .now) ?_)
        rw [g2, if_neg (by first | decide | simp)]
        refine wpAny_bind (listItems_at g1 g3 (wpAny_pure ?_))
        exact wpAny_bind (l3 M A E (fun bs s' => wpAny M A (pure (vs'[0]? :: bs)) Q E s') (wpAny_pure h))
/-- values that read as alike data can be sorted, whatever their lengths -/
theorem sortsAt_any {vs : List Value} {ds : List PyData} (e : EachIs (fun v d => ∃ as, Reads s.heap v d as) vs ds) (hal : AllAlike ds) (hk : ∀ d ∈ ds, d ≠ .none) (hu : ∀ d, d ∈ ds → A.units + d.depth < cLine) : SortsAt prog w A s (dataKind s.heap ds) vs := by
  by_cases h1 : ∀ d ∈ ds, ∃ x r, d = PyData.tuple (x :: r)
  · exact SortsAt.data e hal (.inl h1) hu
  by_cases h2 : ∀ d ∈ ds, ∀ xs, d ≠ PyData.tuple xs
  · exact SortsAt.data e hal (.inr fun d hd => ⟨hk d hd, h2 d hd⟩) hu
  have room : ∀ {d d' : PyData}, d ∈ ds → A.units + min d.depth d'.depth < cLine := fun {d d'} hd => Nat.lt_of_le_of_lt (Nat.add_le_add_left (Nat.min_le_left _ _) _) (hu d hd)
  have tups : ∀ d ∈ ds, ∃ xs, d = PyData.tuple xs := by
    have : ∃ d, d ∈ ds ∧ ∃ xs, d = PyData.tuple xs := Classical.byContradiction fun z => h2 fun d hd xs e => z ⟨d, hd, xs, e⟩
    obtain ⟨d0, m0, xs0, rfl⟩ := this
    intro d hd
    have q := hal d hd _ m0
    cases d with
    | tuple xs => exact ⟨xs, rfl⟩
    | _ => exact absurd q (by simp [alike])
  have noAll : ¬ ∀ d ∈ ds, (match d with | .tuple (_ :: _) => true | _ => false) = true := fun z => h1 fun d hd => by
    have q := z d hd
    obtain ⟨xs, rfl⟩ := tups d hd
    cases xs with
    | nil => cases q
    | cons x r => exact ⟨x, r, rfl⟩
  have lts : ∀ (f : Bool) (kd : SortKind), (∀ x y, keyLt' kd x y = oneLt' f x y) → H.LtAt prog w A s (dataKind s.heap ds) kd := by
    intro f kd hf E x y a b Q ha hb hq
    obtain ⟨d, as, hd, ra, rfl⟩ := dataKind_inv ha
    obtain ⟨d', as', hd', rb, rfl⟩ := dataKind_inv hb
    rw [hf]
    exact oneLt_data ra rb (hal d hd d' hd') (hk d hd) (room hd) hq
  obtain ⟨fs, f1, f2, f3⟩ := firsts_any e tups
  have notAll : (fs.toArray.all fun x => x.isSome) = false := by
    rw [Bool.eq_false_iff]
    intro z
    refine noAll fun d hd => ?_
    have z2 : ∀ b ∈ fs.map Option.isSome, b = true := by
      intro b hb
      obtain ⟨x, hx, rfl⟩ := List.mem_map.mp hb
      have := (Array.all_eq_true_iff_forall_mem.mp z) x (by simpa using hx)
      exact this
    rw [f2] at z2
    exact z2 _ (List.mem_map.mpr ⟨d, hd, rfl⟩)
  refine ⟨fun v hv => ?_, ?_⟩
  · obtain ⟨d, hd, as, r⟩ := e.left v hv
    exact ⟨_, dataKind_some hal hd r⟩
  · cases hfirst : (fs.toArray[0]?.bind id).isSome with
    | true =>
      refine ⟨general', lts false general' (fun _ _ => rfl), fun _ E Q hq => ?_⟩
      rw [keyKind'_eq, List.mapM_toArray, map_eq_pure_bind]
      refine wpAny_bind (wpAny_bind (f3 _ _ _ _ (wpAny_pure ?_)))
      rw [if_neg (by rw [notAll]; exact Bool.false_ne_true), if_pos hfirst]
      exact wpAny_pure hq
    | false =>
      refine ⟨oneType', lts true oneType' (fun _ _ => rfl), fun n2 E Q hq => ?_⟩
      rw [keyKind'_eq, List.mapM_toArray, map_eq_pure_bind]
      refine wpAny_bind (wpAny_bind (f3 _ _ _ _ (wpAny_pure ?_)))
      rw [if_neg (by rw [notAll]; exact Bool.false_ne_true), if_neg (by rw [hfirst]; exact Bool.false_ne_true)]
      rw [oneTypeOnly'_eq, List.mapM_toArray, map_eq_pure_bind]
      refine wpAny_bind (wpAny_bind (wpAny_bind (kas_mapM (r := Value.type "tuple") _ (fun v hv Q' hq => ?_) (wpAny_pure ?_))))
      · obtain ⟨d, hd, as, r⟩ := e.left v hv
        obtain ⟨xs, rfl⟩ := tups d hd
        exact (looks_reads r).here hq
      · match vs, n2 with
        | v1 :: v2 :: rest, _ =>
          have ball : ((List.map (fun _ => Value.type "tuple") (v1 :: v2 :: rest)).toArray.all fun x => x == Value.type "tuple") = true := by
            simp only [List.all_toArray, List.all_map, List.all_eq_true]
            intro _ _
            exact beq_self_eq_true _
          have bfirst : (List.map (fun _ => Value.type "tuple") (v1 :: v2 :: rest)).toArray[0]? = some (Value.type "tuple") := by simp
          rw [bfirst]
          simp only [ball, if_true]
          exact wpAny_pure (wpAny_pure hq)
/-- collect of a tuple -/
theorem collect_tup {l : Addr} {vs : List Value} {Q : List Value → Shared → Prop} (hl : s.heap.IsTuple l vs.toArray) (few : vs.length ≤ sizeLine)
    (h : Q vs { s with heap := (s.heap.push (seqObj "list" #[] 0)).update s.heap.objs.size (Obj.mapSeq (· ++ vs.toArray)) }) : wpAny (model prog w) A (collect (.ref l)) Q E s := by
  obtain ⟨o, g1, g2, n, g3⟩ := id hl
  unfold collect
  refine wpAny_bind (wpAny_runValue (codeAny_builtin entry_proto_collect' ?_))
  show wpAny _ _ (do again (.builtin "list.__iadd__" ⟨[← newList [], .ref l], []⟩)) _ _ s
  refine wpAny_bind (wpAny_newList (wpAny_pure ⟨Code.quiet_builtin _ (by decide +kernel), codeAny_builtin entry_list_iadd' ?_⟩))
  have g1' : (s.heap.push (seqObj "list" #[] 0)).get? l = some o := Heap.get?_push_of_some _ g1
  have new0 : (s.heap.push (seqObj "list" #[] 0)).get? s.heap.objs.size = some (seqObj "list" #[] 0) := Heap.get?_push_size _ rfl
  show wpAny _ _ (Builtin.List.listExtendWith (.ref s.heap.objs.size) (.ref l) (.ref s.heap.objs.size)) _ _ { s with heap := s.heap.push (seqObj "list" #[] 0) }
  unfold Builtin.List.listExtendWith
  refine wpAny_bind (wpAny_typeOf (T := "tuple") ⟨o, g1', g2⟩ ?_)
  rw [if_pos (by rw [beq_self_eq_true]; simp)]
  refine wpAny_bind (listItems_at g1' g3 ?_)
  refine wpAny_bind (listItems_at (xs := #[]) (n := 0) new0 rfl ?_)
  rw [if_neg (by simp)]
  refine wpAny_bind (listUpdate_at (xs := #[]) (n := 0) new0 rfl ?_ (Nat.zero_le _) ?_)
  · refine wpAny_pure ?_
    show wpAny (model prog w) A (do
        let o ← load s.heap.objs.size
        match o.data with
        | .seq xs _ => pure xs.toList
        | _ => unsupported "internal:collect") Q E _
    refine wpAny_bind (wpAny_load (get?_update_seq new0 _) ?_)
    refine wpAny_pure ?_
    rw [show ((#[] : Array Value) ++ vs.toArray).toList = vs by simp]
    exact h
  · show (#[] ++ vs.toArray).size ≤ sizeLine + 1
    simp only [Array.size_append, List.size_toArray, List.length_nil]
    omega

/-- sorted of what collect gives -/
theorem sorted_coll {κ : PyProof.Rows.KeyKind} {l : Addr} {vs : List Value} {Q : Value → Shared → Prop} (few : vs.length ≤ sizeLine) (S : SortsAt prog w A.in1.in1 { s with heap := sortingHeap (copyHeap s.heap vs) (s.heap.objs.size + 1) vs } κ vs)
    (coll : ∀ (E : Value → Shared → Prop) (Q : List Value → Shared → Prop), Q vs { s with heap := (s.heap.push (seqObj "list" #[] 0)).update s.heap.objs.size (Obj.mapSeq (· ++ vs.toArray)) } → wpAny (model prog w) A.in1 (collect (.ref l)) Q E s)
    (h : Q (.ref (s.heap.objs.size + 1)) { s with heap := sortedAll s.heap vs (sortVals κ false vs vs).toArray }) : wpAny (model prog w) A (call (.builtin "sorted") [.ref l]) Q E s := by
  refine Calls.call_function_entry kind_sorted plain_sorted entry_sorted (args_sorted1 _) ?_
  unfold Builtin.«sorted»
  refine wpAny_bind (m := checkCount "sorted" 1 1 _) (wpAny_pure ?_)
  refine wpAny_bind (coll _ _ ?_)
  refine wpAny_bind (wpAny_newList ?_ few)
  show wpAny _ _ _ _ _ { s with heap := copyHeap s.heap vs }
  have size1 : ((s.heap.push (seqObj "list" #[] 0)).update s.heap.objs.size (Obj.mapSeq (· ++ vs.toArray))).objs.size = s.heap.objs.size + 1 := by rw [Heap.size_update, size_push']
  rw [size1]
  refine wpAny_bind (wpAny_holding (wpAny_call_entry slot_list_sort ⟨_, copyHeap_at s.heap vs, rfl⟩ entry_list_sort ?_ (args_list_sort _)))
  exact list_sort_vals (s := { s with heap := copyHeap s.heap vs }) (copyHeap_at s.heap vs) S few ⟨_, rfl, wpAny_pure ⟨_, rfl, h⟩⟩
end
/-- the order of values, by what they show -/
def shownD (S : Store) (d : D) : PyData := (deep S deepLine d).getD .none
def leD (S : Store) : D → D → Bool := sortLe (listOrd itemOrd) false fun d => keyToks (shownD S d)
def okSort (ps : List PyData) : Bool := (ps.all fun p => ps.all fun q => alike p q) && ps.all fun p => (match p with | .none => false | _ => true) && decide (p.depth ≤ 40) && p.canLay0
def sortD (S : Store) (ds : List D) : Res D := match mapO (deep S deepLine) ds with
  | some ps => if okSort ps = true then .ok (.ptr S.length) (S ++ [.lst (ds.mergeSort (leD S))]) else .bad
  | none => .bad
def fSorted : Fn
  | [.tup ds], S => sortD S ds
  | [.ptr n], S => match S[n]? with
    | some (.lst ds) => sortD S ds
    | some (.rol ds) => sortD S ds
    | _ => .bad
  | _, _ => .bad
/-- what the rule asks: a sequence of values and what they show; what it gives: the sorted list -/
def rSorted (K : PySem.W.Frag) : List V → Hp → VK → Prop := fun xs H Q => ∃ a vs ds ps φ S, xs = [.ref a] ∧ (SqL K H a vs ∨ SqT K H a vs) ∧ RS K H φ S ∧ RDs K H φ ds vs ∧ mapO (deep S deepLine) ds = some ps ∧ okSort ps = true ∧
  ∀ us p, RDs K H φ (ds.mergeSort (leD S)) us → H p = none → Q (.ref p) (upd H p (.lst us))
section
variable {X : Cx} {W : WX} {k : Nat}
theorem mapO_each {α β : Type} {f : α → Option β} : ∀ {xs : List α} {ys : List β}, mapO f xs = some ys → EachIs (fun x y => f x = some y) xs ys
  | [], _, e => by unfold mapO at e; cases e; exact .nil
  | x :: xs, _, e => by
    obtain ⟨y, ys, h1, h2, rfl⟩ := mapO_cons e
    exact .cons h1 (mapO_each h2)
theorem okSort_of {ps : List PyData} (h : okSort ps = true) : AllAlike ps ∧ (∀ p ∈ ps, p ≠ .none) ∧ (∀ p ∈ ps, p.depth ≤ 40) ∧ ∀ p ∈ ps, p.canLay0 = true := by
  unfold okSort at h
  simp only [Bool.and_eq_true, List.all_eq_true, decide_eq_true_eq] at h
  refine ⟨fun d hd d' hd' => h.1 d hd d' hd', fun p hp e => ?_, fun p hp => (h.2 p hp).1.2, fun p hp => (h.2 p hp).2⟩
  have := (h.2 p hp).1.1
  subst e
  cases this
theorem reads_each {pins : List (Addr × Obj)} {σ : L2.St} {H : Hp} {s : Shared} {φ : List Addr} {S : Store} (I : Inv X pins σ H s) (rs : RS X.K H φ S) : ∀ {ds : List D} {ps : List PyData} {vs : List V} {its : List Value}, EachIs (fun d p => deep S deepLine d = some p) ds ps → (∀ p ∈ ps, p.canLay0 = true) → RDs X.K H φ ds vs → Vals vs its →
    EachIs (fun v p => ∃ as, Reads s.heap v p as) its ps
  | [], _, _, _, .nil, _, r, q => by
    unfold RDs at r; subst r; cases q; exact .nil
  | d :: ds, _, _, _, .cons e es, c, r, q => by
    unfold RDs at r
    obtain ⟨v, vs', rfl, r1, r2⟩ := r
    cases q with
    | cons q1 q2 =>
      refine .cons ?_ (reads_each I rs es (fun p hp => c p (List.mem_cons_of_mem _ hp)) r2 q2)
      exact Dp.reads I _ _ _ (deep_dp rs _ _ _ _ r1 e (c _ List.mem_cons_self)) q1
theorem each_pairs {K : PySem.W.Frag} {H : Hp} {φ : List Addr} : ∀ {ds : List D} {vs : List V} {its : List Value}, RDs K H φ ds vs → Vals vs its → EachIs (fun u (b : D × V) => RelV b.2 u ∧ RD K H φ b.1 b.2) its (ds.zip vs)
  | [], _, _, r, q => by unfold RDs at r; subst r; cases q; exact .nil
  | d :: ds, _, _, r, q => by
    unfold RDs at r
    obtain ⟨v, vs', rfl, r1, r2⟩ := r
    cases q with
    | cons q1 q2 => exact .cons ⟨q1, r1⟩ (each_pairs r2 q2)
theorem each_keysP {h : Heap} {S : Store} {all : List PyData} (hal : AllAlike all) : ∀ {ds : List D} {ps : List PyData} {vs : List V} {its : List Value}, (∀ p ∈ ps, p ∈ all) → EachIs (fun d p => deep S deepLine d = some p) ds ps → ds.length = vs.length → EachIs (fun v p => ∃ as, Reads h v p as) its ps →
    EachIs (fun v (b : D × V) => (dataKind h all).keyOf v = some (keyToks (shownD S b.1))) its (ds.zip vs)
  | [], _, _, _, _, .nil, _, .nil => .nil
  | d :: ds, _, [], _, _, .cons _ _, l, _ => by cases l
  | d :: ds, _, v :: vs, _, m, .cons e es, l, .cons r rs => by
    refine .cons ?_ (each_keysP hal (fun p hp => m p (List.mem_cons_of_mem _ hp)) es (Nat.succ.inj l) rs)
    obtain ⟨as, r⟩ := r
    show _ = some (keyToks (shownD S d))
    unfold shownD
    rw [e]
    exact dataKind_some hal (m _ List.mem_cons_self) r
theorem each_out {K : PySem.W.Frag} {H : Hp} {φ : List Addr} : ∀ {out : List Value} {bs : List (D × V)}, EachIs (fun u (b : D × V) => RelV b.2 u ∧ RD K H φ b.1 b.2) out bs → Vals (bs.map (·.2)) out ∧ RDs K H φ (bs.map (·.1)) (bs.map (·.2))
  | _, _, .nil => ⟨.nil, RDs.nil⟩
  | _, _, .cons h t => ⟨.cons h.1 (each_out t).1, RDs.cons h.2 (each_out t).2⟩
theorem call_sorted (c : Ctx X W k) : CallR X (.builtin "sorted") (rSorted X.K) := by
  intro pins s σ H xs us Q I r h
  obtain ⟨a, vs, ds, ps, φ, S, rfl, seq, rs, rd, sh, ok, q⟩ := h
  obtain ⟨u, rfl, ru⟩ := vals1 r
  cases ru
  obtain ⟨hal, hnn, hdp, hcl⟩ := okSort_of ok
  have each := mapO_each sh
  have go : ∀ its : List Value, Vals vs its → vs.length ≤ sizeLine → (∀ (E : Value → Shared → Prop) (Q : List Value → Shared → Prop), Q its { s with heap := (s.heap.push (seqObj "list" #[] 0)).update s.heap.objs.size (Obj.mapSeq (· ++ its.toArray)) } → wpAny (model X.prog X.w) X.A.in1 (collect (.ref a)) Q E s) →
      wpAny (model X.prog X.w) X.A (call (.builtin "sorted") [.ref a]) (EP X pins σ Q) X.xe s := by
    intro its rv few coll
    have reads := reads_each I rs each hcl rd rv
    have few2 : its.length ≤ sizeLine := by rw [← rv.length]; exact few
    have reads2 : EachIs (fun v p => ∃ as, Reads (sortingHeap (copyHeap s.heap its) (s.heap.objs.size + 1) its) v p as) its ps := reads.mono fun v p ⟨as, r⟩ => ⟨as, Reads.keeps (fun b o e => sorting_copy_old e) r⟩
    refine sorted_coll few2 (sortsAt_any (s := { s with heap := sortingHeap (copyHeap s.heap its) (s.heap.objs.size + 1) its }) reads2 hal hnn fun d hd => ?_) coll ?_
    · show X.A.units + 1 + 1 + d.depth < cLine
      have := c.hr.units
      have := hdp d hd
      omega
    · have l1 : ds.length = vs.length := rd.length.symm
      have outs := sortVals_each (κ := dataKind (sortingHeap (copyHeap s.heap its) (s.heap.objs.size + 1) its) ps) (rev := false) (fun b : D × V => keyToks (shownD S b.1)) (each_pairs rd rv) (each_keysP hal (fun p hp => hp) each l1 reads2)
      obtain ⟨o1, o2⟩ := each_out outs
      have order : ((ds.zip vs).mergeSort (sortLe (listOrd itemOrd) false fun b : D × V => keyToks (shownD S b.1))).map (·.1) = ds.mergeSort (leD S) := by
        have z := List.map_mergeSort (f := fun b : D × V => b.1) (l := ds.zip vs) (r := sortLe (listOrd itemOrd) false fun b : D × V => keyToks (shownD S b.1)) (s := leD S) (fun x _ y _ => rfl)
        rw [z, List.map_fst_zip (Nat.le_of_eq l1)]
      obtain ⟨n, at_⟩ := sortedAll_at s.heap its (sortVals (dataKind (sortingHeap (copyHeap s.heap its) (s.heap.objs.size + 1) its) ps) false its its).toArray
      have o3 : RDs X.K H φ (ds.mergeSort (leD S)) (((ds.zip vs).mergeSort (sortLe (listOrd itemOrd) false fun b : D × V => keyToks (shownD S b.1))).map (·.2)) := order ▸ o2
      have free : H (s.heap.objs.size + 1) = none := I.hok.fresh (Nat.le_succ _)
      refine ⟨.ref (s.heap.objs.size + 1), upd H (s.heap.objs.size + 1) (.lst _), I.laid (t' := s.toks) (fun b o e => sortedAll_old e) (Nat.le_succ _) ⟨?_, _, n, o1, at_⟩, rfl, q _ _ o3 free⟩
      rw [List.length_map, List.length_mergeSort, List.length_zip, l1, Nat.min_self]
      exact few
  rcases seq with seq | seq
  · obtain ⟨its, rv, ⟨o, n, g1, g2, _, g3⟩, few⟩ := I.list seq
    exact go its rv few fun E Q h => collect_list ⟨o, g1, g2, n, g3⟩ h (by rw [← rv.length]; exact few)
  · obtain ⟨its, rv, ⟨o, g1, g2, n, g3⟩, few⟩ := I.tuple seq
    exact go its rv few fun E Q h => collect_tup ⟨o, g1, g2, n, g3⟩ (by rw [← rv.length]; exact few) h
theorem cd_sorted : CallD X (rSorted X.K) fSorted := by
  intro W σ φ H S xs vs Q rs r h
  have fin : ∀ (a : Addr) (ds : List D) (ys : List V), (SqL X.K H a ys ∨ SqT X.K H a ys) → RDs X.K H φ ds ys → LK X W σ φ H (sortD S ds) (fun d _ φ' H' => ∀ v, RD X.K H' φ' d v → Q v H') → rSorted X.K [.ref a] H Q := by
    intro a ds ys seq rd h
    unfold sortD at h
    split at h
    · rename_i ps hp
      split at h
      · rename_i ok
        refine ⟨a, ys, ds, ps, φ, S, rfl, seq, rs, rd, hp, ok, fun us p hu free => ?_⟩
        obtain ⟨z1, z2, z3⟩ := od_newC rs hu free
        exact h _ _ z2 z1 _ z3
      · exact h.elim
    · exact h.elim
  unfold fSorted at h
  split at h
  · obtain ⟨v, rfl, rx⟩ := r.one
    unfold RD at rx
    obtain ⟨a, ys, rfl, hx, qx⟩ := rx
    exact fin a _ ys (.inr hx) qx h
  · obtain ⟨v, rfl, rx⟩ := r.one
    unfold RD at rx
    obtain ⟨a, ha, rfl⟩ := rx
    split at h
    · rename_i ys hS
      obtain ⟨a', xs, q1, q2, q3⟩ := rs.seqL (.inl hS)
      rw [ha] at q1; cases q1
      exact fin a _ xs (.inl q2) q3 h
    · rename_i ys hS
      obtain ⟨a', xs, q1, q2, q3⟩ := rs.seqL (.inr hS)
      rw [ha] at q1; cases q1
      exact fin a _ xs (.inl q2) q3 h
    · exact h.elim
  · exact h.elim
end
end RL

namespace RL
open PySem PySem.Spec PyProof.Rows L2

/-! ### more expressions -/
section
variable {X : Cx} {W : WX} {k : Nat} {e : Expr} {es : List Expr} {pos p : Pos} {me : ME} {ms : MA}
def eNeg (me : ME) : ME := fun ρ S => (me ρ S).bind fun x S1 => match x with
  | .int i => .ok (.int (-i)) S1
  | _ => .bad
theorem se_neg (ha : SE X W e me) : SE X W (.UnaryOp .USub e pos) (eNeg me) := by
  refine (pe_un un_neg ha).imp fun σ H Q => ?_
  rintro ⟨φ, ρ, S, re, rs, h⟩
  refine LE.to re rs h fun x S1 φ1 H1 v x1 rs1 re1 rd kk => ?_
  split at kk
  · unfold RD at rd; exact ⟨_, rd, kk.ok rs1 _ rd_int⟩
  · exact kk.elim
/-- any value as a test -/
def truD (S : Store) : D → Option Bool
  | .non => some false
  | .bl b => some b
  | .int i => some (i != 0)
  | .str y => if y.length ≤ sizeLine then some ((y.length : Int) != 0) else none
  | .tup xs => some (!xs.isEmpty)
  | .ptr n => match S[n]? with
    | some (.lst xs) => some (!xs.isEmpty)
    | some (.rol xs) => some (!xs.isEmpty)
    | some (.dct kvs) => some (!kvs.isEmpty)
    | none => none
def tTru (me : ME) : MT := fun ρ S => (me ρ S).bind fun x S1 => match truD S1 x with
  | some b => .ok b S1
  | none => .bad
theorem RDs.isEmpty {K : PySem.W.Frag} {H : Hp} {φ : List Addr} {ds : List D} {vs : List V} (r : RDs K H φ ds vs) : vs.isEmpty = ds.isEmpty := by
  cases ds with
  | nil => unfold RDs at r; rw [r]; rfl
  | cons d ds => unfold RDs at r; obtain ⟨v, vs', rfl, _⟩ := r; rfl
theorem RKv.isEmpty {K : PySem.W.Frag} {H : Hp} {φ : List Addr} {ds : List (L2.Key × D)} {vs : List (L2.Key × V)} (r : RKv K H φ ds vs) : vs.isEmpty = ds.isEmpty := by
  cases ds with
  | nil => unfold RKv at r; rw [r]; rfl
  | cons d ds => obtain ⟨k, d⟩ := d; unfold RKv at r; obtain ⟨v, vs', rfl, _⟩ := r; rfl
theorem truD_ok {H : Hp} {φ : List Addr} {S : Store} {d : D} {v : V} {b : Bool} (rs : RS X.K H φ S) (rd : RD X.K H φ d v) (h : truD S d = some b) : TruV X.K v H b := by
  cases d with
  | non => unfold RD at rd; subst rd; cases h; rfl
  | bl c => unfold RD at rd; subst rd; cases h; rfl
  | int c => unfold RD at rd; subst rd; cases h; rfl
  | str c =>
    unfold RD at rd; subst rd
    have h : (if c.length ≤ sizeLine then some ((c.length : Int) != 0) else none) = some b := h
    split at h
    · cases h; exact ⟨by assumption, rfl⟩
    · cases h
  | tup ds =>
    unfold RD at rd
    obtain ⟨a, xs, rfl, s, r⟩ := rd
    cases h
    exact .inr (.inl ⟨xs, s, by rw [r.isEmpty]⟩)
  | ptr n =>
    unfold RD at rd
    obtain ⟨a, ha, rfl⟩ := rd
    have h : (match S[n]? with
      | some (.lst xs) => some (!xs.isEmpty)
      | some (.rol xs) => some (!xs.isEmpty)
      | some (.dct kvs) => some (!kvs.isEmpty)
      | none => none) = some b := h
    split at h
    · rename_i ys hS
      obtain ⟨a', xs, q1, q2, q3⟩ := rs.seqL (.inl hS)
      rw [ha] at q1; cases q1; cases h
      exact .inl ⟨xs, q2, by rw [q3.isEmpty]⟩
    · rename_i ys hS
      obtain ⟨a', xs, q1, q2, q3⟩ := rs.seqL (.inr hS)
      rw [ha] at q1; cases q1; cases h
      exact .inl ⟨xs, q2, by rw [q3.isEmpty]⟩
    · rename_i ys hS
      obtain ⟨a', q1, xs, q2, q3⟩ := rs.at hS
      rw [ha] at q1; cases q1; cases h
      exact .inr (.inr ⟨xs, q2, by rw [q3.isEmpty]⟩)
    · cases h
theorem st_tru (ha : SE X W e me) (he : ∀ whole, isTrue e X.env whole = (do let v ← whole; standAt e.pos; holding [v] (truthy v)) := by intro _; rfl) : ST X W e (tTru me) := by
  refine (pt_truth ha he).imp fun σ H Q => ?_
  rintro ⟨φ, ρ, S, re, rs, h⟩
  refine LE.to re rs h fun x S1 φ1 H1 v x1 rs1 re1 rd kk => ?_
  split at kk
  · rename_i b hb
    exact ⟨b, truD_ok rs1 rd hb, kk.ok rs1⟩
  · exact kk.elim

open Classical in
noncomputable def fLstRg (a b : Int) (S : Store) : Res D := if RgOk a b then .ok (.ptr S.length) (S ++ [.lst (rangeD a (b - a).toNat)]) else .bad
open Classical in
noncomputable def fTupRg (a b : Int) (S : Store) : Res D := if RgOk a b then .ok (.tup (rangeD a (b - a).toNat)) S else .bad
def eRg1 (f : Int → Int → Store → Res D) (me : ME) : ME := fun ρ S => (me ρ S).bind fun x S1 => match x with
  | .int n => f 0 n S1
  | _ => .bad
def eRg2 (f : Int → Int → Store → Res D) (me mb : ME) : ME := fun ρ S => (me ρ S).bind fun x S1 => (mb ρ S1).bind fun y S2 => match x, y with
  | .int a, .int b => f a b S2
  | _, _ => .bad
theorem rds_rg {K : PySem.W.Frag} {H : Hp} {φ : List Addr} (a b : Int) : RDs K H φ (rangeD a (b - a).toNat) (rgV a b) := by
  unfold rangeD rgV
  generalize List.range (b - a).toNat = l
  induction l with
  | nil => exact RDs.nil
  | cons x l ih => exact RDs.cons rd_int ih
theorem prg_imp {t t' : L2.St → Hp → (Int → Int → Hp → Prop) → Prop} (h : PRg X e t) (i : ∀ σ H Q, t' σ H Q → t σ H Q) : PRg X e t' := fun pins s σ H Q I q => h pins s σ H Q I (i σ H Q q)
open Classical in
theorem LK.ifRg {σ : L2.St} {φ : List Addr} {H : Hp} {a b : Int} {P : D → Store → List Addr → Hp → Prop} {r : Res D} (h : LK X W σ φ H (if RgOk a b then r else .bad) P) : RgOk a b ∧ LK X W σ φ H r P := by
  by_cases q : RgOk a b
  · rw [if_pos q] at h; exact ⟨q, h⟩
  · rw [if_neg q] at h; exact h.elim
theorem se_listRg1 {q : Pos} {a : Expr} {mb : ME} (c : Ctx X W k) (hm : X.mg "list" = none) (hr : X.mg "range" = none) (ha : SE X W a mb) (hg : Gl X "list" := by rfl) (hgr : Gl X "range" := by rfl)
    (na : starEach [a] X.env = (false, eval a X.env) :: starEach [] X.env := by rfl) (nb : starEach [.Call (.Name "range" q) [a] [] p] X.env = (false, eval (.Call (.Name "range" q) [a] [] p) X.env) :: starEach [] X.env := by rfl) {r : Pos} :
    SE X W (.Call (.Name "list" r) [.Call (.Name "range" q) [a] [] p] [] pos) (eRg1 fLstRg mb) := by
  refine (pe_listRg c.calm hg hm (prg_1 hgr hr ha na) nb).imp fun σ H Q => ?_
  rintro ⟨φ, ρ, S, re, rs, h⟩
  refine LE.to re rs h fun x S1 φ1 H1 v x1 rs1 re1 rd kk => ?_
  split at kk
  · unfold RD at rd
    obtain ⟨ok, kk⟩ := LK.ifRg kk
    refine ⟨_, rd, ok, fun q hq => ?_⟩
    obtain ⟨z1, z2, z3⟩ := od_newC rs1 (rds_rg 0 _) hq
    exact kk _ _ z2 z1 _ z3
  · exact kk.elim
theorem se_tupRg1 {q : Pos} {a : Expr} {mb : ME} (c : Ctx X W k) (hm : X.mg "tuple" = none) (hr : X.mg "range" = none) (ha : SE X W a mb) (hg : Gl X "tuple" := by rfl) (hgr : Gl X "range" := by rfl)
    (na : starEach [a] X.env = (false, eval a X.env) :: starEach [] X.env := by rfl) (nb : starEach [.Call (.Name "range" q) [a] [] p] X.env = (false, eval (.Call (.Name "range" q) [a] [] p) X.env) :: starEach [] X.env := by rfl) {r : Pos} :
    SE X W (.Call (.Name "tuple" r) [.Call (.Name "range" q) [a] [] p] [] pos) (eRg1 fTupRg mb) := by
  refine (pe_tupRg c.calm hg hm (prg_1 hgr hr ha na) nb).imp fun σ H Q => ?_
  rintro ⟨φ, ρ, S, re, rs, h⟩
  refine LE.to re rs h fun x S1 φ1 H1 v x1 rs1 re1 rd kk => ?_
  split at kk
  · unfold RD at rd
    obtain ⟨ok, kk⟩ := LK.ifRg kk
    exact ⟨_, rd, ok, fun q hq => kk φ1 _ (Ext.new hq) (rs1.new hq) _ (od_new (rds_rg 0 _) hq)⟩
  · exact kk.elim
theorem se_listRg2 {q : Pos} {a b : Expr} {ma mb : ME} (c : Ctx X W k) (hm : X.mg "list" = none) (hr : X.mg "range" = none) (ha : SE X W a ma) (hb : SE X W b mb) (hg : Gl X "list" := by rfl) (hgr : Gl X "range" := by rfl)
    (na : starEach [a, b] X.env = (false, eval a X.env) :: starEach [b] X.env := by rfl) (nb : starEach [b] X.env = (false, eval b X.env) :: starEach [] X.env := by rfl) (hp : (backTo p (starEach [b] X.env)).any (·.1) = false := by rfl)
    (nc : starEach [.Call (.Name "range" q) [a, b] [] p] X.env = (false, eval (.Call (.Name "range" q) [a, b] [] p) X.env) :: starEach [] X.env := by rfl) {r : Pos} :
    SE X W (.Call (.Name "list" r) [.Call (.Name "range" q) [a, b] [] p] [] pos) (eRg2 fLstRg ma mb) := by
  refine (pe_listRg c.calm hg hm (prg_2 hgr hr ha hb na nb hp) nc).imp fun σ H Q => ?_
  rintro ⟨φ, ρ, S, re, rs, h⟩
  refine LE.to re rs h fun x S1 φ1 H1 v x1 rs1 re1 rd k1 => LE.to re1 rs1 k1 fun y S2 φ2 H2 u x2 rs2 re2 rd2 kk => ?_
  split at kk
  · unfold RD at rd rd2
    obtain ⟨ok, kk⟩ := LK.ifRg kk
    refine ⟨_, _, rd, rd2, ok, fun q hq => ?_⟩
    obtain ⟨z1, z2, z3⟩ := od_newC rs2 (rds_rg _ _) hq
    exact kk _ _ z2 z1 _ z3
  · exact kk.elim

/-! ### xs[::-1] -/
section
variable {prog : Program} {w : World} {A : Around} {E : Value → Shared → Prop} {s : Shared}
theorem rev_places (n : Nat) : Builtin.Slice.slicePlaces ((n : Int) - 1) (-1) (-1) = n := by
  unfold Builtin.Slice.slicePlaces
  simp
  omega
theorem rev_adjust (n : Nat) : Builtin.Slice.sliceAdjust none none (-1) (n : Int) = ((n : Int) - 1, -1) := by
  unfold Builtin.Slice.sliceAdjust
  simp
theorem rev_pick (xs : Array Value) : ((List.range xs.size).filterMap fun (m : Nat) => xs[(((xs.size : Int) - 1) + (m : Int) * (-1)).toNat]?).toArray = xs.toList.reverse.toArray := by
  have e : ∀ m ∈ List.range xs.size, xs[(((xs.size : Int) - 1) + (m : Int) * (-1)).toNat]? = xs[xs.size - 1 - m]? := fun m hm => by
    have := List.mem_range.mp hm
    have : (((xs.size : Int) - 1) + (m : Int) * (-1)).toNat = xs.size - 1 - m := by omega
    rw [this]
  have cong : ∀ l : List Nat, (∀ m ∈ l, m ∈ List.range xs.size) → l.filterMap (fun (m : Nat) => xs[(((xs.size : Int) - 1) + (m : Int) * (-1)).toNat]?) = l.filterMap fun m => xs[xs.size - 1 - m]? := by
    intro l
    induction l with
    | nil => intro _; rfl
    | cons m l ih =>
      intro hl
      rw [List.filterMap_cons, List.filterMap_cons, e m (hl m List.mem_cons_self), ih fun m hm => hl m (List.mem_cons_of_mem _ hm)]
  rw [cong _ fun _ h => h]
  congr 1
  apply List.ext_getElem?
  intro i
  have all : ∀ l : List Nat, (∀ m ∈ l, m < xs.size) → l.filterMap (fun m => xs[xs.size - 1 - m]?) = l.map fun m => xs.toList.getD (xs.size - 1 - m) .none := by
    intro l
    induction l with
    | nil => intro _; rfl
    | cons m l ih =>
      intro hl
      have hm := hl m List.mem_cons_self
      have h1 : xs[xs.size - 1 - m]? = some xs[xs.size - 1 - m] := Array.getElem?_eq_getElem (by omega)
      rw [List.filterMap_cons, h1, ih fun m hm => hl m (List.mem_cons_of_mem _ hm), List.map_cons]
      congr 1
      rw [List.getD_eq_getElem?_getD, Array.getElem?_toList, h1]
      rfl
  rw [all _ fun m hm => List.mem_range.mp hm]
  by_cases hi : i < xs.size
  · rw [List.getElem?_map, List.getElem?_range hi, List.getElem?_reverse (by simpa using hi)]
    simp only [Option.map_some, Array.length_toList]
    rw [List.getD_eq_getElem?_getD, Array.getElem?_toList, Array.getElem?_eq_getElem (by omega)]
    rfl
  · rw [List.getElem?_eq_none (by simp; omega), List.getElem?_eq_none (by simp; omega)]
theorem getItem_tup_rev {t sl : Addr} {items : Array Value} {vl vu vs : Value} {Q : Value → Shared → Prop} (ht : IsTup s.heap t items) (hs : s.heap.IsSliceOf sl vl vu vs) (pl : IsPart vl none) (pu : IsPart vu none) (ps : IsPart vs (some (-1)))
    (h : Q (.ref s.heap.objs.size) { s with heap := s.heap.push { cls := .type "tuple", data := .seq items.toList.reverse.toArray } }) (few : items.size ≤ sizeLine) : wpAny (model prog w) A (getItem (.ref t) (.ref sl)) Q E s := by
  obtain ⟨os, hos, hcs, hds⟩ := id hs
  have isSlice : s.TypeIs (.ref sl) "slice" := ⟨os, hos, hcs⟩
  have fits : sizeOk (.seq items.toList.reverse.toArray) := by
    show items.toList.reverse.toArray.size ≤ sizeLine
    rw [List.size_toArray, List.length_reverse, Array.length_toList]
    exact few
  unfold getItem
  try with_reducible refine wpAny_holding ?_
  first | refine wpAny_bind (wpAny_pure ?_) | skip
  refine wpAny_bind (wpAny_sequenceKey ht.typeIs (by decide) ?_)
  refine wpAny_bind (wpAny_callSpecial?_slot (name := Str.ofString "__getitem__") ht.typeIs PyProof.Rows.slot_tuple_getitem
    (wpAny_call_entry PyProof.Rows.slot_tuple_getitem ht.typeIs entry_tuple_getitem ?_ (args_tuple_getitem _ _)))
  show wpAny _ _ (Builtin.Tuple.tupleItemsOf (.ref t) >>= _) _ _ s
  refine wpAny_bind (PyProof.Rows.tupleItemsOf_ ht ?_)
  refine wpAny_bind (wpAny_typeOf isSlice ?_)
  rw [if_pos (by decide)]
  have applied : ∀ (Q : Int × Int × Nat → Shared → Prop), Q ((items.size : Int) - 1, -1, items.size) s → ∀ E, wpAny (model prog w) A.in1 (Builtin.Slice.sliceApplied (.ref sl) (pure ((items.size : Nat) : Int))) Q E s := by
    intro Q h E
    unfold Builtin.Slice.sliceApplied Builtin.Slice.sliceFields
    refine wpAny_bind (wpAny_bind (wpAny_field hos hds (x := vl) rfl (wpAny_bind (wpAny_field hos hds (x := vu) rfl (wpAny_bind (wpAny_field hos hds (x := vs) rfl (wpAny_pure ?_)))))))
    refine wpAny_bind (HT.slicePart_ ps ?_)
    show wpAny _ _ (if ((-1 : Int) == 0) = true then _ else _) _ _ s
    rw [if_neg (by decide)]
    refine wpAny_bind (HT.slicePart_ pl (wpAny_bind (HT.slicePart_ pu (wpAny_bind (wpAny_pure ?_)))))
    show wpAny _ _ (match Builtin.Slice.sliceAdjust none none (-1) (items.size : Int) with | (lo, hi) => pure (lo, (-1 : Int), Builtin.Slice.slicePlaces lo hi (-1))) _ _ s
    rw [rev_adjust]
    show wpAny _ _ (pure ((items.size : Int) - 1, (-1 : Int), Builtin.Slice.slicePlaces ((items.size : Int) - 1) (-1) (-1))) _ _ s
    rw [rev_places]
    exact wpAny_pure h
  refine wpAny_bind (applied _ ?_ _)
  have no : ¬ ((((items.size : Int) - 1) == 0 && (-1 : Int) == 1 && items.size == items.size) = true) := by simp
  show wpAny _ _ (if (((items.size : Int) - 1) == 0 && (-1 : Int) == 1 && items.size == items.size) = true then _ else _) _ _ s
  rw [if_neg no, rev_pick]
  first
    | exact wpAny_bind (m := Builtin.Tuple.tupleExact _) (wpAny_newObj_type (wpAny_pure ⟨_, rfl, wpAny_pure h⟩) fits)
    | exact wpAny_bind (m := Builtin.Tuple.tupleExact _) (wpAny_newObj_type (wpAny_bind (wpAny_pure (wpAny_pure ⟨_, rfl, wpAny_pure h⟩))) fits)
    | exact wpAny_bind (wpAny_bind (m := Builtin.Tuple.tupleExact _) (wpAny_newObj_type (wpAny_pure (wpAny_pure ⟨_, rfl, wpAny_pure h⟩)) fits))
    | exact wpAny_bind (wpAny_bind (m := Builtin.Tuple.tupleExact _) (wpAny_newObj_type (wpAny_pure ⟨_, rfl, wpAny_pure h⟩) fits))
end
end
end RL

namespace RL
open PySem PySem.Spec PyProof.Rows L2

/-! ### e[::-1] -/
def tRevA (K : PySem.W.Frag) (te : TE) : TE := fun σ H Q => te σ H fun x H1 =>
  (∃ a xs, x = .ref a ∧ SqL K H1 a xs ∧ ∀ p, H1 p = none → Q (.ref p) (upd H1 p (.lst xs.reverse))) ∨
  (∃ a xs, x = .ref a ∧ SqT K H1 a xs ∧ ∀ p, H1 p = none → Q (.ref p) (upd H1 p (.tup xs.reverse)))
section
variable {X : Cx} {W : WX} {k : Nat} {e : Expr} {es : List Expr} {pos : Pos} {me : ME} {ms : MA}
theorem pe_revA {te : TE} {kk : Nat} {p1 p2 p3 : Pos} (he : PE X e te) : PE X (.Subscript e (.Slice none none (some (.UnaryOp .USub (.Constant (.int 1) kk p1) p2)) p3) pos) (tRevA X.K te) := by
  refine ⟨fun pins s σ H Q I h => ?_⟩
  refine Subscript_ (thn (he.run pins s σ H _ I h) fun v s1 ⟨x, H1, I1, r1, q1⟩ => ?_)
  have step : PO X (some (.UnaryOp .USub (.Constant (.int 1) kk p1) p2)) (tPart (tUn (rU fun i => .int (-i)) (tC (.int 1)))) := po_some (pe_un un_neg pe_int)
  refine wpAny_Slice (thn (po_none.run pins s1 σ H1 (fun o H2 => o = none ∧ H2 = H1) I1 ⟨rfl, rfl⟩) fun vl s2 ⟨l, H2, I2, pl, el, e2⟩ => ?_)
  subst el e2
  refine thn (po_none.run pins s2 σ H2 (fun o H3 => o = none ∧ H3 = H2) I2 ⟨rfl, rfl⟩) fun vu s3 ⟨u, H3, I3, pu, eu, e3⟩ => ?_
  subst eu e3
  refine thn (step.run pins s3 σ H3 (fun o H4 => o = some (-1) ∧ H4 = H3) I3 ⟨1, rfl, -1, rfl, rfl, rfl⟩) fun vs s4 ⟨o, H4, I4, ps, eo, e4⟩ => ?_
  subst eo e4
  have I5 : Inv X pins σ H4 { s4 with heap := s4.heap.push { cls := .type "slice", data := .fields #[vl, vu, vs] } } := I4.kept (t' := s4.toks) fun b ob q => Heap.get?_push_of_some _ q
  rcases q1 with ⟨a, xs, rfl, hx, q⟩ | ⟨a, xs, rfl, hx, q⟩
  · cases r1
    obtain ⟨its, r, ht, hz⟩ := I5.list hx
    have hlen := r.length
    show wpAny (model X.prog X.w) X.A (subscriptTail e (.Slice none none (some (.UnaryOp .USub (.Constant (.int 1) kk p1) p2)) p3) (.ref a) (.ref s4.heap.objs.size)) (EP X pins σ Q) X.xe _
    refine tail_any (ops := [.ref a, .ref s4.heap.objs.size]) ht.isList.typeIs (PySem.slot_list_getitem.lookup) ?_ (by with_unfolding_all rfl)
    refine wpAny_getItem_list_slice ht.isList (Heap.IsSliceOf.new _ vl vu vs) pl pu ps (by decide) ?_ (by rw [List.size_toArray]; omega)
    rw [PySem.W.krv_pick]
    refine ⟨.ref _, _, I5.laid (t' := s4.toks) (o := .lst xs.reverse) (fun b ob q => Heap.get?_push_of_some _ q) (Nat.le_refl _) ?_, rfl, q _ (I5.hok.fresh (Nat.le_refl _))⟩
    exact ⟨by rw [List.length_reverse]; exact hz, _, 0, r.reverse, Heap.get?_push_size _ rfl⟩
  · cases r1
    obtain ⟨its, r, ht, hz⟩ := I5.tuple hx
    have hlen := r.length
    show wpAny (model X.prog X.w) X.A (subscriptTail e (.Slice none none (some (.UnaryOp .USub (.Constant (.int 1) kk p1) p2)) p3) (.ref a) (.ref s4.heap.objs.size)) (EP X pins σ Q) X.xe _
    refine tail_any (ops := [.ref a, .ref s4.heap.objs.size]) ht.typeIs (PyProof.Rows.slot_tuple_getitem.lookup) ?_ (by with_unfolding_all rfl)
    refine getItem_tup_rev ht (Heap.IsSliceOf.new _ vl vu vs) pl pu ps ?_ (by rw [List.size_toArray]; omega)
    refine ⟨.ref _, _, I5.laid (t' := s4.toks) (o := .tup xs.reverse) (fun b ob q => Heap.get?_push_of_some _ q) (Nat.le_refl _) ?_, rfl, q _ (I5.hok.fresh (Nat.le_refl _))⟩
    exact ⟨by rw [List.length_reverse]; exact hz, _, r.reverse, IsTup.new _ _⟩
def oRev (x : D) (S : Store) : Res D := match x with
  | .tup xs => .ok (.tup xs.reverse) S
  | .ptr n => match S[n]? with
    | some (.lst xs) => .ok (.ptr S.length) (S ++ [.lst xs.reverse])
    | some (.rol xs) => .ok (.ptr S.length) (S ++ [.lst xs.reverse])
    | _ => .bad
  | _ => .bad
def eRev (me : ME) : ME := fun ρ S => (me ρ S).bind fun x S1 => oRev x S1
theorem se_rev {kk : Nat} {p1 p2 p3 : Pos} (he : SE X W e me) : SE X W (.Subscript e (.Slice none none (some (.UnaryOp .USub (.Constant (.int 1) kk p1) p2)) p3) pos) (eRev me) := by
  refine (pe_revA he).imp fun σ H Q => ?_
  rintro ⟨φ, ρ, S, re, rs, h⟩
  refine LE.to re rs h fun x S1 φ1 H1 vx x1 rs1 re1 rx h1 => ?_
  unfold oRev at h1
  split at h1
  · unfold RD at rx
    obtain ⟨a, xs, rfl, hx, qx⟩ := rx
    exact .inr ⟨a, xs, rfl, hx, fun q hq => h1 φ1 _ (Ext.new hq) (rs1.new hq) _ (od_new qx.reverse hq)⟩
  · unfold RD at rx
    obtain ⟨a, ha, rfl⟩ := rx
    split at h1
    · rename_i ys hS
      obtain ⟨a', xs, q1, q2, q3⟩ := rs1.seqL (.inl hS)
      rw [ha] at q1; cases q1
      refine .inl ⟨a, xs, rfl, q2, fun q hq => ?_⟩
      obtain ⟨z1, z2, z3⟩ := od_newC rs1 q3.reverse hq
      exact h1 _ _ z2 z1 _ z3
    · rename_i ys hS
      obtain ⟨a', xs, q1, q2, q3⟩ := rs1.seqL (.inr hS)
      rw [ha] at q1; cases q1
      refine .inl ⟨a, xs, rfl, q2, fun q hq => ?_⟩
      obtain ⟨z1, z2, z3⟩ := od_newC rs1 q3.reverse hq
      exact h1 _ _ z2 z1 _ z3
    · exact h1.elim
  · exact h1.elim

/-! ### a, b = x, y -/
theorem LA.toS {m : MA} {ρ : Env} {S : Store} {σ : L2.St} {φ : List Addr} {H : Hp} {f : List D → Store → SRes} {D : Ends} {Q : List V → Hp → Prop} (re : RE X.K H φ ρ σ) (rs : RS X.K H φ S) (h : LKS X W φ H (ofE (m ρ S) ρ f) D)
    (q : ∀ d S1 φ1 H1 v, Ext X.K φ H φ1 H1 → RS X.K H1 φ1 S1 → RE X.K H1 φ1 ρ σ → RDs X.K H1 φ1 d v → LKS X W φ1 H1 (f d S1) D → Q v H1) : LA X W m σ H Q :=
  ⟨φ, ρ, S, re, rs, (LKS.ofE re h).mono fun d S1 φ1 H1 x z k v rd => q d S1 φ1 H1 v x z (re.mono x) rd k⟩
def sPar (i j : Nat) (ms : MA) : MS := fun ρ S => ofE (ms ρ S) ρ fun ds S1 => match ds with
  | [x, y] => .next ((ρ.set i (some x)).set j (some y)) S1
  | _ => .bad
theorem ss_par (i j : Nat) {x y : Str} {a b : Expr} {px py pt : Pos} {kt k2 pt2} (c : Ctx X W k) (ha : SA X W [a, b] ms) (hij : i ≠ j := by decide) (hi : X.N[i]? = some x := by rfl) (hj : X.N[j]? = some y := by rfl)
    (hx : X.env.scope.names.lookup x = some .local := by rfl) (hy : X.env.scope.names.lookup y = some .local := by rfl)
    (hw : swappedStores [.Tuple [.Name x px, .Name y py] kt pt] (.Tuple [a, b] k2 pt2) X.env = pure (some [x, y]) := by rfl)
    (hs : swapsWithSole [.Tuple [.Name x px, .Name y py] kt pt] (.Tuple [a, b] k2 pt2) pos.line X.env = pure false := by rfl) :
    SS X W (.Assign [.Tuple [.Name x px, .Name y py] kt pt] (.Tuple [a, b] k2 pt2) pos) (sPar i j ms) := by
  refine (ps_par c.calm c.nd hi hj hij hx hy ha hw hs).imp fun D σ H => ?_
  rintro ⟨φ, ρ, S, re, rs, h⟩
  refine LA.toS re rs h fun d S1 φ1 H1 v x1 rs1 re1 rd kk => ?_
  split at kk
  · obtain ⟨u, w, rfl, r1, r2⟩ := rd.two
    exact ⟨u, w, rfl, kk.nx ((re1.set i r1).set j r2) rs1⟩
  · exact kk.elim
end

/-! ### y = [..] on one line -/
section
variable {X : Cx} {W : WX} {k : Nat} {elt tg iter : Expr} {ifs : List Expr} {scope : Scope} {own : List (Str × Nat)} {pos spos : Pos} {mi : MI} {bnd : Bnd} {t : MT} {me : ME}
theorem comp_nm {i : Nat} {σ : L2.St} {H : Hp} {Q : VK} (h : LE X W (eComp mi (bNm i) [i] t me) σ H Q) : tLc (LI X W mi) (gName i) (LT X W0 t) (LE X W0 me) [i] σ H Q := by
  refine comp_go (Y := X) (t := t) (me := me) (bnd := bNm i) rfl (fun d x σ ρ ρ1 φ H Q re rd hb q => ?_) (fun _ _ _ h => h) (fun _ _ _ h => h) h
  cases hb
  refine q _ ?_ ((re.wipe [i]).set i rd)
  show ((σ.set i none).set i (some x)).set i none = σ.set i none
  rw [List.set_set, List.set_set]
theorem ss_setLc (j : Nat) {x y : Str} {i : Nat} {ti py : Pos} (c : Ctx X W k) (hi : SI X W (.Name x ti) iter mi) (ok : BlkOk X.N X.env.scope scope [(x, i)])
    (hg : ∀ s H C cl fp, PG (blkX X scope s H C cl fp) (.Name x ti) (gName i))
    (ht : ∀ s H C cl fp, PTs (blkX X scope s H C cl fp) ifs (LT (blkX X scope s H C cl fp) W0 t)) (he : ∀ s H C cl fp, SE (blkX X scope s H C cl fp) W0 elt me)
    (hk : X.env.scope.kind = .function := by rfl) (hj : X.N[j]? = some y := by rfl) (hyl : X.env.scope.names.lookup y = some .local := by rfl) (hl : (py.line == pos.line) = true := by rfl)
    (hh : (scope.names.any fun (n, k) => n == y && (k == .local || k == .cell)) = false := by rfl) (hs : ∀ x, foldedSetIterable iter X.env x = pure x := by intro _; rfl) :
    SS X W (.Assign [.Name y py] (.ListComp elt [⟨.Name x ti, iter, ifs, 0⟩] scope pos) spos) (sSet j (eComp mi (bNm i) [i] t me)) := by
  refine (ps_setLc (wi := LI X W mi) (g := gName i) (tt := LT X W0 t) (te := LE X W0 me) c.calm c.nd hj hyl (sw_true hk hyl hl hh) hi ok hg ht he hs).imp fun D σ H => ?_
  rintro ⟨φ, ρ, S, re, rs, h⟩
  exact comp_nm (LE.toS re rs h fun d S1 φ1 H1 v x1 rs1 re1 rd kk => kk.nx (re1.set j rd) rs1)
end
end RL

namespace RL
open PySem PySem.Spec PyProof.Rows L2

/-! ### over a tuple or a list -/
def iAnyM (me : ME) : MI := fun ρ S => (me ρ S).bind fun d S1 => match d with
  | .tup xs => .ok ⟨xs, fun _ => True⟩ S1
  | .ptr n => match S1[n]? with
    | some (.lst xs) => .ok ⟨xs, fun S => S[n]? = some (.lst xs)⟩ S1
    | some (.rol xs) => .ok ⟨xs, fun S => S[n]? = some (.rol xs)⟩ S1
    | _ => .bad
  | _ => .bad
section
variable {X : Cx} {W : WX} {k k' : Nat} {e : Expr} {es : List Expr} {pos p : Pos} {me : ME} {ms mk : MA}
theorem _root_.L2.PI.or {tg e : Expr} {t u : TI} (h : PI X tg e t) (g : PI X tg e u) : PI X tg e (fun σ H R => t σ H R ∨ u σ H R) := ⟨fun pins s σ H R I q => by
  rcases q with q | q
  · exact h.run pins s σ H R I q
  · exact g.run pins s σ H R I q⟩
theorem si_any {tg : Expr} (he : SE X W e me) : SI X W tg e (iAnyM me) := by
  refine ((si_tup he).or (si_lst he)).imp fun σ H R => ?_
  rintro ⟨φ, ρ, S, re, rs, h⟩
  cases hm : me ρ S with
  | bad => simp only [iAnyM, hm, Res.bind] at h; exact h.elim
  | exn x S1 => exact .inl ⟨φ, ρ, S, re, rs, by simp only [iAnyM, iTupM, hm, Res.bind] at h ⊢; exact h⟩
  | ok d S1 =>
    cases d with
    | tup xs => exact .inl ⟨φ, ρ, S, re, rs, by simp only [iAnyM, iTupM, hm, Res.bind] at h ⊢; exact h⟩
    | ptr n => exact .inr ⟨φ, ρ, S, re, rs, by simp only [iAnyM, iLstM, hm, Res.bind] at h ⊢; exact h⟩
    | non => simp only [iAnyM, hm, Res.bind] at h; exact h.elim
    | bl _ => simp only [iAnyM, hm, Res.bind] at h; exact h.elim
    | int _ => simp only [iAnyM, hm, Res.bind] at h; exact h.elim
    | str _ => simp only [iAnyM, hm, Res.bind] at h; exact h.elim
end

theorem pts_nilM {X : Cx} {W : WX} : PTs X [] (LT X W tYesM) := ⟨fun pins s σ H Q I h => pts_nil.run pins s σ H Q I (by
  obtain ⟨φ, ρ, S, re, rs, h⟩ := h
  exact h.ok rs)⟩
/-! ### a def that stands among the globals -/
structure Known (P : Program) (w : World) (K : PySem.W.Frag) (mg : Str → Option Value) (base : Heap) (k : Nat) (x : Str) (st : Stmt) (ps : List Str) (F : Fn) : Prop where
  ex : ∃ (f : Addr) (fd : FuncData), mg x = some (.ref f) ∧ Fun K x x st f fd ∧ Binds K fd ps [] ∧ FnG P w K mg base k f fd ps F
/-- a def's binding by position -/
def ByPos (x : Str) (st : Stmt) (ps : List Str) : Prop := ∀ (kV doc pm : Value) (an : Option Addr) (cdv ct : Value) (us : List Value), us.length = ps.length → bindArgs (PySem.W.fnOf x x (defArgs st) (defBody st) (defScope st) .none kV doc pm an cdv ct) ⟨us, []⟩ = pure (ps.zip us)
def ByKw (x : Str) (st : Stmt) (ps ks : List Str) (n : Nat) (is : List Nat) : Prop := ∀ (kV doc pm : Value) (an : Option Addr) (cdv ct : Value) (us ws : List Value), us.length = n → ws.length = ks.length →
  bindArgs (PySem.W.fnOf x x (defArgs st) (defBody st) (defScope st) .none kV doc pm an cdv ct) ⟨us, ks.zip ws⟩ = pure (ps.zip (pickL (us ++ ws) is))
section
variable {P : Program} {w : World} {K : PySem.W.Frag} {mg : Str → Option Value} {base : Heap} {k : Nat} {x : Str} {st : Stmt} {ps : List Str} {F : Fn}
theorem known {f : Addr} {fd : FuncData} (hm : mg x = some (.ref f)) (Fu : Fun K x x st f fd) (hb : ByPos x st ps) (G : FnG P w K mg base k f fd ps F) : Known P w K mg base k x st ps F := ⟨f, fd, hm, Fu, Fu.binds hb, G⟩
theorem Known.mono {j : Nat} (D : Known P w K mg base k x st ps F) (h : k ≤ j) : Known P w K mg base j x st ps F := by
  obtain ⟨f, fd, a, b, c, G⟩ := D.ex
  exact ⟨f, fd, a, b, c, G.mono h⟩
end
section
variable {X : Cx} {W : WX} {k k' : Nat} {e : Expr} {es : List Expr} {kws : List Keyword} {pos p : Pos} {me : ME} {ms mk : MA} {x : Str} {st : Stmt} {ps ks : List Str} {F : Fn}
theorem se_callD (c : Ctx X W k') (D : Known X.prog X.w X.K X.mg X.base k x st ps F) (hk : k ≤ k') (n : Nat) (hn : n = ps.length) (ha : SA X W (e :: es) ms) (hg : Gl X x := by rfl) (hdb : (x == ("__debug__" : Str)) = false := by decide)
    (he : starEach (e :: es) X.env = (false, eval e X.env) :: starEach es X.env := by rfl) (hpl : (backTo pos (starEach es X.env)).any (·.1) = false := by rfl) :
    SE X W (.Call (.Name x p) (e :: es) [] pos) (eFn1 n F ms) := by
  obtain ⟨f, fd, hm, Fu, hb, G⟩ := D.ex
  exact se_call c G hk hm Fu.kp hb n hn ha hg hdb he hpl
theorem se_callD0 (c : Ctx X W k') (D : Known X.prog X.w X.K X.mg X.base k x st [] F) (hk : k ≤ k') (hg : Gl X x := by rfl) (hdb : (x == ("__debug__" : Str)) = false := by decide) :
    SE X W (.Call (.Name x p) [] [] pos) (fun _ S => F [] S) := by
  obtain ⟨f, fd, hm, Fu, hb, G⟩ := D.ex
  exact se_call0 c G hk hm Fu.kp hb hg hdb
theorem bindsK_of {K : PySem.W.Frag} {f : Addr} {fd : FuncData} {n : Nat} {is : List Nat} (Fu : Fun K x x st f fd) (h : ByKw x st ps ks n is) : BindsK K fd ps ks n [] is := by
  obtain ⟨oc, od, kV, doc, pm, an, cdv, ct, osl, rfl, lk, hcd⟩ := Fu.ex
  intro s us ws _ h1 h2
  rw [List.append_nil]
  exact BindsTo.of_eq (h kV doc pm an cdv ct us ws h1 h2)
theorem se_callDK (c : Ctx X W k') (D : Known X.prog X.w X.K X.mg X.base k x st ps F) (hk : k ≤ k') (n m np : Nat) (is : List Nat) (hb : ByKw x st ps ks n is)
    (hmm : m = ks.length) (hnp : np = ps.length) (ha : SA X W (e :: es) ms) (hkw : SK X W kws mk) (hall : (backToKw pos (keywordEach kws X.env)).all (·.1.isSome) = true := by rfl) (hks : (backToKw pos (keywordEach kws X.env)).filterMap (·.1) = ks := by rfl) (hg : Gl X x := by rfl) (hdb : (x == ("__debug__" : Str)) = false := by decide)
    (he : starEach (e :: es) X.env = (false, eval e X.env) :: starEach es X.env := by rfl) (hpl : ((backTo pos (starEach (e :: es) X.env)).any (·.1) || (backToKw pos (keywordEach kws X.env)).any (·.1.isNone)) = false := by rfl) :
    SE X W (.Call (.Name x p) (e :: es) kws pos) (eFnK n m np is [] F ms mk) := by
  obtain ⟨f, fd, hm, Fu, _, G⟩ := D.ex
  exact se_callK c G hk hm Fu.kp (bindsK_of Fu hb) .nil .nil hmm hnp ha hkw hall hks hg hdb he hpl
theorem se_callDK0 (c : Ctx X W k') (D : Known X.prog X.w X.K X.mg X.base k x st ps F) (hk : k ≤ k') (m np : Nat) (is : List Nat) (hb : ByKw x st ps ks 0 is)
    (hmm : m = ks.length) (hnp : np = ps.length) (hkw : SK X W kws mk) (hall : (backToKw pos (keywordEach kws X.env)).all (·.1.isSome) = true := by rfl) (hks : (backToKw pos (keywordEach kws X.env)).filterMap (·.1) = ks := by rfl) (hg : Gl X x := by rfl) (hdb : (x == ("__debug__" : Str)) = false := by decide)
    (hpl : ((backTo pos (starEach [] X.env)).any (·.1) || (backToKw pos (keywordEach kws X.env)).any (·.1.isNone)) = false := by rfl) :
    SE X W (.Call (.Name x p) [] kws pos) (eFnK 0 m np is [] F aNil mk) := by
  obtain ⟨f, fd, hm, Fu, _, G⟩ := D.ex
  exact se_callK0 c G hk hm Fu.kp (bindsK_of Fu hb) .nil .nil hmm hnp hkw hall hks hg hdb hpl
end
end RL

namespace RL
open PySem PySem.Spec PyProof.Rows L2

/-! ### what an abstract run gives -/
def Ok {α : Type} (r : Res α) (P : α → Store → Prop) : Prop := match r with
  | .ok a S => P a S
  | _ => False
structure Ps where
  nx : Env → Store → Prop
  rt : D → Store → Prop
  ct : Env → Store → Prop
  bk : Env → Store → Prop
def OkS (r : SRes) (p : Ps) : Prop := match r with
  | .next ρ S => p.nx ρ S
  | .ret d S => p.rt d S
  | .cont ρ S => p.ct ρ S
  | .brk ρ S => p.bk ρ S
  | _ => False
section
variable {α β : Type} {P : α → Store → Prop} {Q : β → Store → Prop} {S : Store} {ρ : Env} {p q : Ps}
theorem Ok_ok {a : α} : Ok (.ok a S) P = P a S := rfl
theorem Ok_bad : Ok (Res.bad : Res α) P = False := rfl
theorem Ok_bind {r : Res α} {f : α → Store → Res β} : Ok (r.bind f) Q = Ok r fun a S1 => Ok (f a S1) Q := by
  cases r <;> rfl
theorem Ok_if {c : Prop} [Decidable c] {r : Res α} : Ok (if c then r else .bad) P = (c ∧ Ok r P) := by
  by_cases h : c
  · rw [if_pos h]; simp [h]
  · rw [if_neg h]; simp [h, Ok_bad]
theorem Ok.mono {r : Res α} {P' : α → Store → Prop} (h : Ok r P) (i : ∀ a S, P a S → P' a S) : Ok r P' := by
  cases r with
  | ok a S => exact i a S h
  | exn x S => exact h
  | bad => exact h
theorem Ok.eq {r : Res α} (h : Ok r P) : ∃ a S', r = .ok a S' ∧ P a S' := by
  cases r with
  | ok a S => exact ⟨a, S, rfl, h⟩
  | exn x S => exact h.elim
  | bad => exact h.elim
theorem OkS.mono {r : SRes} (h : OkS r p) (h1 : ∀ ρ S, p.nx ρ S → q.nx ρ S) (h2 : ∀ d S, p.rt d S → q.rt d S) (h3 : ∀ ρ S, p.ct ρ S → q.ct ρ S) (h4 : ∀ ρ S, p.bk ρ S → q.bk ρ S) : OkS r q := by
  cases r with
  | next ρ S => exact h1 _ _ h
  | ret d S => exact h2 _ _ h
  | cont ρ S => exact h3 _ _ h
  | brk ρ S => exact h4 _ _ h
  | exn x ρ S => exact h
  | bad => exact h
theorem Ok_eC {d : D} {P : D → Store → Prop} : Ok (eC d ρ S) P = P d S := rfl
/-- tests and statements -/
theorem Ok_tOf {m : ME} {P : Bool → Store → Prop} : Ok (tOf m ρ S) P = Ok (m ρ S) fun d S1 => ∃ b, d = .bl b ∧ P b S1 := by
  unfold tOf
  rw [Ok_bind]
  congr 1
  funext d S1
  cases d <;> simp [Ok_ok, Ok_bad]
theorem Ok_tNot {m : MT} {P : Bool → Store → Prop} : Ok (tNotM m ρ S) P = Ok (m ρ S) fun b S1 => P (!b) S1 := by
  unfold tNotM; rw [Ok_bind]; rfl
theorem Ok_tAnd {m n : MT} {P : Bool → Store → Prop} : Ok (tAndM m n ρ S) P = Ok (m ρ S) fun b S1 => if b = true then Ok (n ρ S1) P else P false S1 := by
  unfold tAndM; rw [Ok_bind]; congr 1; funext b S1; cases b <;> rfl
theorem Ok_tOr {m n : MT} {P : Bool → Store → Prop} : Ok (tOrM m n ρ S) P = Ok (m ρ S) fun b S1 => if b = true then P true S1 else Ok (n ρ S1) P := by
  unfold tOrM; rw [Ok_bind]; congr 1; funext b S1; cases b <;> rfl
theorem Ok_tTru {m : ME} {P : Bool → Store → Prop} : Ok (tTru m ρ S) P = Ok (m ρ S) fun d S1 => ∃ b, truD S1 d = some b ∧ P b S1 := by
  unfold tTru
  rw [Ok_bind]
  congr 1
  funext d S1
  cases truD S1 d <;> simp [Ok_ok, Ok_bad]
theorem Ok_eIf {t : MT} {a b : ME} {P : D → Store → Prop} : Ok (eIf t a b ρ S) P = Ok (t ρ S) fun c S1 => if c = true then Ok (a ρ S1) P else Ok (b ρ S1) P := by
  unfold eIf; rw [Ok_bind]; congr 1; funext c S1; cases c <;> rfl
theorem Ok_andV {a b : ME} {P : D → Store → Prop} : Ok (eAndV a b ρ S) P = Ok (a ρ S) fun d S1 => ∃ c, d = .bl c ∧ if c = true then Ok (b ρ S1) P else P (.bl false) S1 := by
  unfold eAndV
  rw [Ok_bind]
  congr 1
  funext d S1
  cases d with
  | bl c => cases c <;> simp [Ok_ok]
  | _ => simp [Ok_bad]
theorem Ok_orV {a b : ME} {P : D → Store → Prop} : Ok (eOrV a b ρ S) P = Ok (a ρ S) fun d S1 => ∃ c, d = .bl c ∧ if c = true then P (.bl true) S1 else Ok (b ρ S1) P := by
  unfold eOrV
  rw [Ok_bind]
  congr 1
  funext d S1
  cases d with
  | bl c => cases c <;> simp [Ok_ok]
  | _ => simp [Ok_bad]
theorem Ok_chain {f g : D → D → Store → Res D} {a b c : ME} {P : D → Store → Prop} : Ok (eChain f g a b c ρ S) P = Ok (a ρ S) fun x S1 => Ok (b ρ S1) fun y S2 => Ok (f x y S2) fun z S3 => ∃ q, z = .bl q ∧ if q = true then Ok (c ρ S3) fun w S4 => Ok (g y w S4) P else P (.bl false) S3 := by
  unfold eChain
  rw [Ok_bind]; congr 1; funext x S1
  rw [Ok_bind]; congr 1; funext y S2
  rw [Ok_bind]; congr 1; funext z S3
  cases z with
  | bl q => cases q <;> simp [Ok_ok, Ok_bind]
  | _ => simp [Ok_bad]
theorem Ok_addI {i j : Int} {P : D → Store → Prop} : Ok (oAdd (.int i) (.int j) S) P = P (.int (i + j)) S := rfl
theorem Ok_subI {i j : Int} {P : D → Store → Prop} : Ok (oSub (.int i) (.int j) S) P = P (.int (i - j)) S := rfl
theorem Ok_mulI {i j : Int} {P : D → Store → Prop} : Ok (oMul (.int i) (.int j) S) P = ((Builtin.Int.intBits i : Int) + (Builtin.Int.intBits j : Int) ≤ 134217728 ∧ P (.int (i * j)) S) := by
  unfold oMul; exact Ok_if
theorem Ok_modI {i j : Int} {P : D → Store → Prop} : Ok (oMod (.int i) (.int j) S) P = (0 < j ∧ P (.int (i % j)) S) := Ok_if
theorem Ok_divI {i j : Int} {P : D → Store → Prop} : Ok (oDiv (.int i) (.int j) S) P = ((0 < j ∧ j.natAbs.log2 < 9000) ∧ P (.int (i / j)) S) := Ok_if
theorem Ok_powI {i j : Int} {P : D → Store → Prop} : Ok (oPow (.int i) (.int j) S) P = ((0 ≤ j ∧ j ≤ 1000000 ∧ i.natAbs < 2 ^ 64) ∧ P (.int (i ^ j.toNat)) S) := Ok_if
theorem Ok_ltI {i j : Int} {P : D → Store → Prop} : Ok (oLt (.int i) (.int j) S) P = P (.bl (decide (i < j))) S := rfl
theorem Ok_leI {i j : Int} {P : D → Store → Prop} : Ok (oLe (.int i) (.int j) S) P = P (.bl (decide (i ≤ j))) S := rfl
theorem Ok_gtI {i j : Int} {P : D → Store → Prop} : Ok (oGt (.int i) (.int j) S) P = P (.bl (decide (j < i))) S := rfl
theorem Ok_geI {i j : Int} {P : D → Store → Prop} : Ok (oGe (.int i) (.int j) S) P = P (.bl (decide (j ≤ i))) S := rfl
theorem Ok_addT {xs ys : List D} {P : D → Store → Prop} : Ok (oAdd (.tup xs) (.tup ys) S) P = (xs.length + ys.length ≤ sizeLine ∧ P (.tup (xs ++ ys)) S) := Ok_if
theorem Ok_addL {n m : Nat} {xs ys : List D} {P : D → Store → Prop} (h1 : S[n]? = some (.lst xs)) (h2 : S[m]? = some (.lst ys)) : Ok (oAdd (.ptr n) (.ptr m) S) P = (xs.length + ys.length ≤ sizeLine ∧ P (.ptr S.length) (S ++ [.lst (xs ++ ys)])) := by
  unfold oAdd; simp only [h1, h2]; exact Ok_if
theorem Ok_mulL {n : Nat} {k : Int} {xs : List D} {P : D → Store → Prop} (h1 : S[n]? = some (.lst xs)) : Ok (oMul (.ptr n) (.int k) S) P = ((-(2 ^ 63) ≤ k ∧ k < 2 ^ 63 ∧ xs.length * k.toNat ≤ sizeLine) ∧ P (.ptr S.length) (S ++ [.lst (List.replicate k.toNat xs).flatten])) := by
  unfold oMul; simp only [h1]; exact Ok_if
theorem Ok_intI {i : Int} {P : D → Store → Prop} : Ok (fInt [.int i] S) P = P (.int i) S := rfl
theorem Ok_intB {b : Bool} {P : D → Store → Prop} : Ok (fInt [.bl b] S) P = P (.int (if b then 1 else 0)) S := rfl
theorem Ok_boolI {i : Int} {P : D → Store → Prop} : Ok (fBool [.int i] S) P = P (.bl (i != 0)) S := rfl
theorem Ok_abs {i : Int} {P : D → Store → Prop} : Ok (fAbs [.int i] S) P = P (.int (if i < 0 then -i else i)) S := rfl
theorem Ok_lenT {xs : List D} {P : D → Store → Prop} : Ok (fLen [.tup xs] S) P = P (.int xs.length) S := rfl
theorem Ok_lenL {n : Nat} {xs : List D} {P : D → Store → Prop} (h : S[n]? = some (.lst xs) ∨ S[n]? = some (.rol xs)) : Ok (fLen [.ptr n] S) P = P (.int xs.length) S := by
  unfold fLen
  rcases h with h | h <;> (simp only [h]; rfl)
theorem Ok_tupleT {xs : List D} {P : D → Store → Prop} : Ok (fTuple [.tup xs] S) P = P (.tup xs) S := rfl
theorem Ok_tupleL {n : Nat} {xs : List D} {P : D → Store → Prop} (h : S[n]? = some (.lst xs) ∨ S[n]? = some (.rol xs)) : Ok (fTuple [.ptr n] S) P = P (.tup xs) S := by
  unfold fTuple
  rcases h with h | h <;> (simp only [h]; rfl)
theorem Ok_listT {xs : List D} {P : D → Store → Prop} : Ok (fList [.tup xs] S) P = P (.ptr S.length) (S ++ [.lst xs]) := rfl
theorem Ok_ixL {n : Nat} {i : Int} {xs : List D} {P : D → Store → Prop} (h : S[n]? = some (.lst xs) ∨ S[n]? = some (.rol xs)) : Ok (oIx (.ptr n) (.int i) S) P = ∃ d, atD xs i = some d ∧ P d S := by
  unfold oIx
  rcases h with h | h <;> (simp only [h]; cases atD xs i <;> simp [Ok_ok, Ok_bad])
theorem Ok_ixT {i : Int} {xs : List D} {P : D → Store → Prop} : Ok (oIx (.tup xs) (.int i) S) P = ∃ d, atD xs i = some d ∧ P d S := by
  unfold oIx
  simp only
  cases atD xs i <;> simp [Ok_ok, Ok_bad]
theorem Ok_slT {xs : List D} {lo hi : Option Int} {P : D → Store → Prop} : Ok (oSl (.tup xs) lo hi S) P = P (.tup (cutD xs lo hi)) S := rfl
theorem Ok_slL {n : Nat} {xs : List D} {lo hi : Option Int} {P : D → Store → Prop} (h : S[n]? = some (.lst xs) ∨ S[n]? = some (.rol xs)) : Ok (oSl (.ptr n) lo hi S) P = P (.ptr S.length) (S ++ [.lst (cutD xs lo hi)]) := by
  unfold oSl
  rcases h with h | h <;> (simp only [h]; rfl)
theorem Ok_revT {xs : List D} {P : D → Store → Prop} : Ok (oRev (.tup xs) S) P = P (.tup xs.reverse) S := rfl
theorem Ok_dict0 {P : D → Store → Prop} : Ok (eDict0 ρ S) P = P (.ptr S.length) (S ++ [.dct []]) := rfl
theorem Ok_dict1C {k : L2.Key} {d : D} {P : D → Store → Prop} : Ok (eDict1 k (eC d) ρ S) P = P (.ptr S.length) (S ++ [.dct [(k, d)]]) := by
  unfold eDict1
  rw [Ok_bind, Ok_eC, List.getElem?_append_right (Nat.le_refl _), Nat.sub_self]
  show P (.ptr S.length) ((S ++ [Cell.dct []]).set S.length (.dct [(k, d)])) = _
  rw [List.set_append_right _ _ (Nat.le_refl _), Nat.sub_self]
  rfl
theorem oEq_of {x y : D} {d e : PyData} (h1 : deep S deepLine x = some d) (h2 : deep S deepLine y = some e) (h3 : SeqAt.shaped d = true) (h4 : SeqAt.shaped e = true) : oEq x y S = .ok (.bl (PyData.eqv d e)) S := by
  unfold oEq
  split
  · cases h1; cases h2; rfl
  · unfold oEqD
    rw [h1, h2]
    simp only
    rw [if_pos ⟨h3, h4⟩]
theorem oNe_of {x y : D} {d e : PyData} (h1 : deep S deepLine x = some d) (h2 : deep S deepLine y = some e) (h3 : SeqAt.shaped d = true) (h4 : SeqAt.shaped e = true) : oNe x y S = .ok (.bl (!PyData.eqv d e)) S := by
  unfold oNe
  split
  · cases h1; cases h2; rfl
  · unfold oNeD
    rw [h1, h2]
    simp only
    rw [if_pos ⟨h3, h4⟩]
theorem Ok_eqD {x y : D} {P : D → Store → Prop} {d e : PyData} (h1 : deep S deepLine x = some d) (h2 : deep S deepLine y = some e) (h3 : SeqAt.shaped d = true) (h4 : SeqAt.shaped e = true) (h : P (.bl (PyData.eqv d e)) S) : Ok (oEq x y S) P := by
  rw [oEq_of h1 h2 h3 h4]; exact h
theorem Ok_neD {x y : D} {P : D → Store → Prop} {d e : PyData} (h1 : deep S deepLine x = some d) (h2 : deep S deepLine y = some e) (h3 : SeqAt.shaped d = true) (h4 : SeqAt.shaped e = true) (h : P (.bl (!PyData.eqv d e)) S) : Ok (oNe x y S) P := by
  rw [oNe_of h1 h2 h3 h4]; exact h
theorem Ok_neS {x y : Str} {P : D → Store → Prop} : Ok (oNe (.str x) (.str y) S) P = P (.bl (!(x == y))) S := rfl
theorem Ok_eqS {x y : Str} {P : D → Store → Prop} : Ok (oEq (.str x) (.str y) S) P = P (.bl (x == y)) S := rfl
theorem Ok_iAny {m : ME} {P : ItD → Store → Prop} : Ok (iAnyM m ρ S) P = Ok (m ρ S) fun d S1 => ∃ it, (match d with
  | .tup xs => it = ⟨xs, fun _ => True⟩
  | .ptr n => ∃ xs, (S1[n]? = some (.lst xs) ∧ it = ⟨xs, fun S => S[n]? = some (.lst xs)⟩) ∨ (S1[n]? = some (.rol xs) ∧ it = ⟨xs, fun S => S[n]? = some (.rol xs)⟩)
  | _ => False) ∧ P it S1 := by
  unfold iAnyM
  rw [Ok_bind]
  congr 1
  funext d S1
  cases d with
  | tup xs => simp [Ok_ok]
  | ptr n =>
    simp only
    cases h : S1[n]? with
    | none => simp [Ok_bad]
    | some c =>
      cases c with
      | lst xs => simp only [Ok_ok]; simp
      | rol xs => simp only [Ok_ok]; simp
      | dct xs => simp [Ok_bad]
  | _ => simp [Ok_bad]
theorem Ok_rngM1 {ms : MA} {P : ItD → Store → Prop} : Ok (iRngM1 ms ρ S) P = Ok (ms ρ S) fun xs S1 => ∃ j, xs = [.int j] ∧ (-(2 ^ 62) ≤ j ∧ j < 2 ^ 62) ∧ P ⟨rangeD 0 j.toNat, fun _ => True⟩ S1 := by
  unfold iRngM1
  rw [Ok_bind]
  congr 1
  funext xs S1
  split
  · rw [Ok_if]; simp [Ok_ok]
  · rename_i h
    simp only [Ok_bad]
    refine propext ⟨fun z => z.elim, ?_⟩
    rintro ⟨j, rfl, _⟩
    exact h j rfl
theorem Ok_rngM2 {ms : MA} {P : ItD → Store → Prop} : Ok (iRngM2 ms ρ S) P = Ok (ms ρ S) fun xs S1 => ∃ i j, xs = [.int i, .int j] ∧ ((-(2 ^ 62) ≤ i ∧ i < 2 ^ 62) ∧ (-(2 ^ 62) ≤ j ∧ j < 2 ^ 62)) ∧ P ⟨rangeD i (j - i).toNat, fun _ => True⟩ S1 := by
  unfold iRngM2
  rw [Ok_bind]
  congr 1
  funext xs S1
  split
  · rw [Ok_if]
    refine propext ⟨fun z => ⟨_, _, rfl, z.1, z.2⟩, ?_⟩
    rintro ⟨i, j, e, z⟩
    cases e
    exact z
  · rename_i h
    simp only [Ok_bad]
    refine propext ⟨fun z => z.elim, ?_⟩
    rintro ⟨i, j, rfl, _⟩
    exact h i j rfl
theorem OkS_asgSub {me mo mi : ME} : OkS (sAsg me (gSubM mo mi) ρ S) p = Ok (me ρ S) fun d S1 => Ok (mo ρ S1) fun o S2 => Ok (mi ρ S2) fun i S3 => ∃ S4, putL o i d S3 = some S4 ∧ p.nx ρ S4 := by
  unfold sAsg gSubM
  have e : ∀ {α : Type} {r : Res α} {ρ : Env} {f : α → Store → SRes} {p : Ps}, OkS (ofE r ρ f) p = Ok r fun a S1 => OkS (f a S1) p := by
    intro α r ρ f p
    cases r <;> rfl
  have e2 : ∀ {r : SRes} {p : Ps}, OkS (nxOnly r) p = OkS r ⟨p.nx, fun _ _ => False, fun _ _ => False, fun _ _ => False⟩ := by
    intro r p
    cases r <;> rfl
  rw [e]; congr 1; funext d S1
  rw [e2, e]; congr 1; funext o S2
  rw [e]; congr 1; funext i S3
  cases putL o i d S3 <;> simp [OkS]
theorem OkS_ofE {r : Res α} {f : α → Store → SRes} : OkS (ofE r ρ f) p = Ok r fun a S1 => OkS (f a S1) p := by
  cases r <;> rfl
theorem OkS_seq {m n : MS} : OkS (sSeq m n ρ S) p = OkS (m ρ S) { p with nx := fun ρ1 S1 => OkS (n ρ1 S1) p } := by
  unfold sSeq
  cases m ρ S <;> rfl
theorem OkS_pass : OkS (sPass ρ S) p = p.nx ρ S := rfl
theorem OkS_cont : OkS (sCont ρ S) p = p.ct ρ S := rfl
theorem OkS_brk : OkS (sBrk ρ S) p = p.bk ρ S := rfl
theorem OkS_retN : OkS (sRetN ρ S) p = p.rt .non S := rfl
theorem OkS_ret {m : ME} : OkS (sRet m ρ S) p = Ok (m ρ S) p.rt := by
  unfold sRet; rw [OkS_ofE]; rfl
theorem OkS_drop {m : ME} : OkS (sDrop m ρ S) p = Ok (m ρ S) fun _ S1 => p.nx ρ S1 := by
  unfold sDrop; rw [OkS_ofE]; rfl
theorem OkS_set {i : Nat} {m : ME} : OkS (sSet i m ρ S) p = Ok (m ρ S) fun d S1 => p.nx (ρ.set i (some d)) S1 := by
  unfold sSet; rw [OkS_ofE]; rfl
theorem OkS_par {i j : Nat} {m : MA} : OkS (sPar i j m ρ S) p = Ok (m ρ S) fun ds S1 => ∃ x y, ds = [x, y] ∧ p.nx ((ρ.set i (some x)).set j (some y)) S1 := by
  unfold sPar; rw [OkS_ofE]
  congr 1
  funext ds S1
  match ds with
  | [] => simp [OkS]
  | [_] => simp [OkS]
  | [x, y] =>
    simp only [OkS]
    refine propext ⟨fun h => ⟨x, y, rfl, h⟩, ?_⟩
    rintro ⟨a, b, e, h⟩
    cases e
    exact h
  | _ :: _ :: _ :: _ => simp [OkS]
theorem OkS_if {t : MT} {m n : MS} : OkS (sIf t m n ρ S) p = Ok (t ρ S) fun c S1 => if c = true then OkS (m ρ S1) p else OkS (n ρ S1) p := by
  unfold sIf; rw [OkS_ofE]; congr 1; funext c S1; cases c <;> rfl
theorem Ok_body {n : Nat} {b : MS} {ds : List D} {P : D → Store → Prop} : Ok (mBody n b ds S) P = OkS (b (ds.map some ++ List.replicate (n - ds.length) none) S) ⟨fun _ S' => P .non S', P, fun _ _ => False, fun _ _ => False⟩ := by
  unfold mBody
  cases b (ds.map some ++ List.replicate (n - ds.length) none) S <;> rfl
theorem Ok_nil {P : List D → Store → Prop} : Ok (aNil ρ S) P = P [] S := rfl
theorem Ok_cons {m : ME} {ms : MA} {P : List D → Store → Prop} : Ok (aCons m ms ρ S) P = Ok (m ρ S) fun x S1 => Ok (ms ρ S1) fun xs S2 => P (x :: xs) S2 := by
  unfold aCons; rw [Ok_bind]; congr 1; funext x S1; rw [Ok_bind]; rfl
theorem Ok_bin {f : D → D → Store → Res D} {a b : ME} {P : D → Store → Prop} : Ok (eBin f a b ρ S) P = Ok (a ρ S) fun x S1 => Ok (b ρ S1) fun y S2 => Ok (f x y S2) P := by
  unfold eBin; rw [Ok_bind]; congr 1; funext x S1; rw [Ok_bind]
theorem Ok_var {i : Nat} {P : D → Store → Prop} : Ok (eVar i ρ S) P = ∃ d, ρ[i]? = some (some d) ∧ P d S := by
  unfold eVar
  cases h : ρ[i]? with
  | none => simp [Ok_bad]
  | some o =>
    cases o with
    | none => simp [Ok_bad]
    | some d => simp [Ok_ok]
theorem Ok_call {f : Fn} {ms : MA} {P : D → Store → Prop} : Ok (eCall f ms ρ S) P = Ok (ms ρ S) fun xs S1 => Ok (f xs S1) P := by
  unfold eCall; rw [Ok_bind]
theorem Ok_fn1 {n : Nat} {F : Fn} {ms : MA} {P : D → Store → Prop} : Ok (eFn1 n F ms ρ S) P = Ok (ms ρ S) fun xs S1 => xs.length = n ∧ Ok (F xs S1) P := by
  unfold eFn1; rw [Ok_bind]; congr 1; funext xs S1; rw [Ok_if]
theorem Ok_fnK {n m np : Nat} {is : List Nat} {dd : List D} {F : Fn} {ms mk : MA} {P : D → Store → Prop} : Ok (eFnK n m np is dd F ms mk ρ S) P =
    Ok (ms ρ S) fun xs S1 => Ok (mk ρ S1) fun ys S2 => (xs.length = n ∧ ys.length = m ∧ (pickL (xs ++ ys ++ dd) is).length = np) ∧ Ok (F (pickL (xs ++ ys ++ dd) is) S2) P := by
  unfold eFnK; rw [Ok_bind]; congr 1; funext xs S1; rw [Ok_bind]; congr 1; funext ys S2; rw [Ok_if]
theorem Ok_tup {ms : MA} {P : D → Store → Prop} : Ok (eTup ms ρ S) P = Ok (ms ρ S) fun xs S1 => xs.length ≤ sizeLine ∧ P (.tup xs) S1 := by
  unfold eTup; rw [Ok_bind]; congr 1; funext xs S1; rw [Ok_if]; rfl
theorem Ok_lst {ms : MA} {P : D → Store → Prop} : Ok (eLst ms ρ S) P = Ok (ms ρ S) fun xs S1 => xs.length ≤ sizeLine ∧ P (.ptr S1.length) (S1 ++ [.lst xs]) := by
  unfold eLst; rw [Ok_bind]; congr 1; funext xs S1; rw [Ok_if]; rfl
theorem Ok_isi {T : String} {m : ME} {P : D → Store → Prop} : Ok (eIsi T m ρ S) P = Ok (m ρ S) fun x S1 => ∃ k, kindD S1 x = some k ∧ P (.bl (isiB k T)) S1 := by
  unfold eIsi; rw [Ok_bind]; congr 1; funext x S1
  cases kindD S1 x <;> simp [Ok_ok, Ok_bad]
theorem Ok_sl {m : ME} {lo hi : MO} {P : D → Store → Prop} : Ok (eSl m lo hi ρ S) P = Ok (m ρ S) fun x S1 => Ok (lo ρ S1) fun l S2 => Ok (hi ρ S2) fun u S3 => Ok (oSl x l u S3) P := by
  unfold eSl; simp only [Ok_bind]
theorem Ok_pNone {P : Option Int → Store → Prop} : Ok (pNone ρ S) P = P none S := rfl
theorem Ok_pSome {m : ME} {P : Option Int → Store → Prop} : Ok (pSome m ρ S) P = Ok (m ρ S) fun d S1 => ∃ i, d = .int i ∧ P (some i) S1 := by
  unfold pSome
  rw [Ok_bind]
  congr 1
  funext d S1
  cases d <;> simp [Ok_ok, Ok_bad]
theorem Ok_neg {m : ME} {P : D → Store → Prop} : Ok (eNeg m ρ S) P = Ok (m ρ S) fun d S1 => ∃ i, d = .int i ∧ P (.int (-i)) S1 := by
  unfold eNeg
  rw [Ok_bind]
  congr 1
  funext d S1
  cases d <;> simp [Ok_ok, Ok_bad]
theorem Ok_notV {m : ME} {P : D → Store → Prop} : Ok (eNotV m ρ S) P = Ok (m ρ S) fun d S1 => ∃ b, d = .bl b ∧ P (.bl (!b)) S1 := by
  unfold eNotV
  rw [Ok_bind]
  congr 1
  funext d S1
  cases d <;> simp [Ok_ok, Ok_bad]
theorem Ok_rev {m : ME} {P : D → Store → Prop} : Ok (eRev m ρ S) P = Ok (m ρ S) fun d S1 => Ok (oRev d S1) P := by
  unfold eRev; rw [Ok_bind]
theorem Ok_rg1 {f : Int → Int → Store → Res D} {m : ME} {P : D → Store → Prop} : Ok (eRg1 f m ρ S) P = Ok (m ρ S) fun d S1 => ∃ i, d = .int i ∧ Ok (f 0 i S1) P := by
  unfold eRg1
  rw [Ok_bind]
  congr 1
  funext d S1
  cases d <;> simp [Ok_ok, Ok_bad]
open Classical in
theorem OkS_for {mi : MI} {g : MG} {body : MS} : OkS (sFor mi g body ρ S) p = Ok (mi ρ S) fun it S1 => it.chk S1 ∧ OkS (forM it.chk g body it.items ρ S1) p := by
  unfold sFor; rw [OkS_ofE]; congr 1; funext it S1
  by_cases h : it.chk S1
  · rw [if_pos h]; simp [h]
  · rw [if_neg h]; simp [h, OkS]
open Classical in
theorem forM_inv {chk : Store → Prop} {i : Nat} {body : MS} (I : List D → Env → Store → Prop) (step : ∀ x xs ρ S, I (x :: xs) ρ S → OkS (body (ρ.set i (some x)) S) ⟨fun ρ S => chk S ∧ I xs ρ S, p.rt, fun ρ S => chk S ∧ I xs ρ S, p.nx⟩)
    (fin : ∀ ρ S, I [] ρ S → p.nx ρ S) : ∀ (xs : List D) (ρ : Env) (S : Store), I xs ρ S → OkS (forM chk (gNm i) body xs ρ S) p
  | [], ρ, S, h => fin ρ S h
  | x :: xs, ρ, S, h => by
    have st := step x xs ρ S h
    unfold forM
    show OkS (match body (ρ.set i (some x)) S with
      | .next ρ2 S2 => if chk S2 then forM chk (gNm i) body xs ρ2 S2 else .bad
      | .cont ρ2 S2 => if chk S2 then forM chk (gNm i) body xs ρ2 S2 else .bad
      | .brk ρ2 S2 => .next ρ2 S2
      | r => r) p
    cases hb : body (ρ.set i (some x)) S with
    | next ρ2 S2 =>
      rw [hb] at st
      simp only [if_pos st.1]
      exact forM_inv I step fin xs ρ2 S2 st.2
    | cont ρ2 S2 =>
      rw [hb] at st
      simp only [if_pos st.1]
      exact forM_inv I step fin xs ρ2 S2 st.2
    | brk ρ2 S2 => rw [hb] at st; exact st
    | ret d S2 => rw [hb] at st; exact st
    | exn a b c => rw [hb] at st; exact st
    | bad => rw [hb] at st; exact st
theorem Ok_noExn {r : Res α} (h : Ok r P) : Ok (noExn r) P := by
  cases r with
  | ok a S => exact h
  | exn x S => exact h.elim
  | bad => exact h
open Classical in
theorem Ok_comp {mi : MI} {bnd : Bnd} {vs : List Nat} {t : MT} {e : ME} {P : D → Store → Prop} : Ok (eComp mi bnd vs t e ρ S) P = Ok (mi ρ S) fun it S1 => it.chk (S1 ++ [.lst []]) ∧ Ok (compT it.chk bnd t e S1.length (wipeE ρ vs) it.items (S1 ++ [.lst []])) fun _ S2 => P (.ptr S1.length) S2 := by
  unfold eComp
  rw [Ok_bind]
  congr 1
  funext it S1
  by_cases h : it.chk (S1 ++ [.lst []])
  · rw [if_pos h, Ok_bind]; simp [h, Ok_ok]
  · rw [if_neg h]; simp [h, Ok_bad]
/-- a comprehension's turns: I of what was made, what is left, and the store -/
theorem compT_inv {chk : Store → Prop} {i : Nat} {t : MT} {e : ME} {n : Nat} {ρ : Env} {Q : Store → Prop} (I : List D → List D → Store → Prop) (at_ : ∀ acc xs S, I acc xs S → S[n]? = some (.lst acc))
    (step : ∀ acc x xs S, I acc (x :: xs) S → Ok (t (ρ.set i (some x)) S) fun b S2 => if b = true then Ok (e (ρ.set i (some x)) S2) fun y S3 => S3[n]? = some (.lst acc) ∧ acc.length < sizeLine ∧ chk (S3.set n (.lst (acc ++ [y]))) ∧ I (acc ++ [y]) xs (S3.set n (.lst (acc ++ [y]))) else chk S2 ∧ I acc xs S2)
    (fin : ∀ acc S, I acc [] S → Q S) : ∀ (acc xs : List D) (S : Store), I acc xs S → Ok (compT chk (bNm i) t e n ρ xs S) fun _ S' => Q S'
  | acc, [], S, h => fin acc S h
  | acc, x :: xs, S, h => by
    have st := step acc x xs S h
    unfold compT
    show Ok ((noExn (t (ρ.set i (some x)) S)).bind fun b S2 => _) _
    rw [Ok_bind]
    refine Ok_noExn (st.mono fun b S2 hb => ?_)
    cases b with
    | false =>
      simp only [Bool.false_eq_true, if_false] at hb ⊢
      rw [if_pos hb.1]
      exact compT_inv I at_ step fin acc xs S2 hb.2
    | true =>
      simp only [if_true] at hb ⊢
      rw [Ok_bind]
      refine Ok_noExn (hb.mono fun y S3 hy => ?_)
      obtain ⟨h1, h2, h3, h4⟩ := hy
      rw [h1]
      simp only
      rw [if_pos ⟨h2, h3⟩]
      exact compT_inv I at_ step fin (acc ++ [y]) xs _ h4
end
theorem ex2 {α β : Type} {a : α} {b : β} {P : α → β → Prop} : (∃ i j, (a = i ∧ b = j) ∧ P i j) = P a b := propext ⟨fun ⟨_, _, ⟨rfl, rfl⟩, h⟩ => h, fun h => ⟨_, _, ⟨rfl, rfl⟩, h⟩⟩
open Classical in
theorem Ok_lstRg {a b : Int} {S : Store} {P : D → Store → Prop} : Ok (fLstRg a b S) P = (RgOk a b ∧ P (.ptr S.length) (S ++ [.lst (rangeD a (b - a).toNat)])) := by
  unfold fLstRg; exact Ok_if
open Classical in
theorem Ok_tupRg {a b : Int} {S : Store} {P : D → Store → Prop} : Ok (fTupRg a b S) P = (RgOk a b ∧ P (.tup (rangeD a (b - a).toNat)) S) := by
  unfold fTupRg; exact Ok_if
theorem set_last (S : Store) (c d : Cell) : (S ++ [c]).set S.length d = S ++ [d] := by
  rw [List.set_append_right _ _ (Nat.le_refl _), Nat.sub_self]; rfl
theorem get_last (S : Store) (c : Cell) : (S ++ [c])[S.length]? = some c := by
  rw [List.getElem?_append_right (Nat.le_refl _), Nat.sub_self]; rfl
/-- turns that only look: what passes the test, by g -/
theorem compT_fm {chk : Store → Prop} {i : Nat} {t : MT} {e : ME} {ρ : Env} {S0 : Store} (tb : D → Bool) (g : D → D) (hc : ∀ acc, chk (S0 ++ [.lst acc])) : ∀ (xs acc : List D), acc.length + xs.length ≤ sizeLine →
    (∀ x ∈ xs, ∀ acc, Ok (t (ρ.set i (some x)) (S0 ++ [.lst acc])) fun b S2 => b = tb x ∧ S2 = S0 ++ [.lst acc]) →
    (∀ x ∈ xs, tb x = true → ∀ acc, Ok (e (ρ.set i (some x)) (S0 ++ [.lst acc])) fun y S3 => y = g x ∧ S3 = S0 ++ [.lst acc]) →
    Ok (compT chk (bNm i) t e S0.length ρ xs (S0 ++ [.lst acc])) fun _ S' => S' = S0 ++ [.lst (acc ++ (xs.filter tb).map g)]
  | [], acc, _, _, _ => by show S0 ++ [.lst acc] = S0 ++ [.lst (acc ++ [])]; rw [List.append_nil]
  | x :: xs, acc, hl, ht, he => by
    rw [List.length_cons] at hl
    unfold compT
    show Ok ((noExn (t (ρ.set i (some x)) (S0 ++ [.lst acc]))).bind fun b S2 => _) _
    rw [Ok_bind]
    refine Ok_noExn ((ht x List.mem_cons_self acc).mono fun b S2 hb => ?_)
    obtain ⟨rfl, rfl⟩ := hb
    cases hx : tb x with
    | false =>
      simp only [Bool.false_eq_true, if_false]
      rw [if_pos (hc acc), List.filter_cons_of_neg (by rw [hx]; decide)]
      exact compT_fm tb g hc xs acc (by omega) (fun y hy => ht y (List.mem_cons_of_mem _ hy)) fun y hy => he y (List.mem_cons_of_mem _ hy)
    | true =>
      simp only [if_true]
      rw [Ok_bind]
      refine Ok_noExn ((he x List.mem_cons_self hx acc).mono fun y S3 hy => ?_)
      obtain ⟨rfl, rfl⟩ := hy
      rw [get_last]
      simp only
      rw [set_last, if_pos ⟨by omega, hc _⟩, List.filter_cons_of_pos hx, List.map_cons]
      have := compT_fm tb g hc xs (acc ++ [g x]) (by rw [List.length_append, List.length_cons, List.length_nil]; omega) (fun y hy => ht y (List.mem_cons_of_mem _ hy)) fun y hy => he y (List.mem_cons_of_mem _ hy)
      rw [List.append_assoc] at this
      exact this
theorem lawTrue_of {n : Nat} {F : Fn} (h : ∀ ns : List Int, ns.length ≤ n → (∀ z ∈ ns, Builtin.Int.intBits z ≤ 1048576) → Ok (F [.ptr 0] [.rol (ns.map D.int)]) fun d _ => d = .bl true) : LawTrue n F := fun ns h1 h2 => by
  obtain ⟨a, S', e, rfl⟩ := (h ns h1 h2).eq
  exact ⟨S', e⟩

/-! ### stores that grow -/
/-- S' has all that S has, but perhaps at the places q -/
structure Gr (q : Nat → Prop) (S S' : Store) : Prop where
  len : S.length ≤ S'.length
  same : ∀ n, n < S.length → ¬ q n → S'[n]? = S[n]?
abbrev Gr0 := Gr fun _ => False
section
variable {q : Nat → Prop} {S S' S'' : Store} {n : Nat} {c : Cell}
theorem Gr.refl : Gr q S S := ⟨Nat.le_refl _, fun _ _ _ => rfl⟩
theorem Gr.trans (a : Gr q S S') (b : Gr q S' S'') : Gr q S S'' := ⟨Nat.le_trans a.len b.len, fun n h k => (b.same n (Nat.lt_of_lt_of_le h a.len) k).trans (a.same n h k)⟩
theorem Gr.app (T : Store) : Gr q S (S ++ T) := ⟨by rw [List.length_append]; omega, fun n h _ => List.getElem?_append_left h⟩
theorem Gr.weak {q' : Nat → Prop} (a : Gr q S S') (h : ∀ n, q n → q' n) : Gr q' S S' := ⟨a.len, fun n hn k => a.same n hn fun z => k (h n z)⟩
theorem Gr.weak0 {q' : Nat → Prop} (a : Gr0 S S') : Gr q' S S' := a.weak fun _ z => z.elim
theorem Gr.put (c : Cell) (hq : q n) : Gr q S (S.set n c) := ⟨by rw [List.length_set]; exact Nat.le_refl _, fun m hm k => by
  rw [List.getElem?_set_ne]; rintro rfl; exact k hq⟩
theorem Gr.putNew {S0 : Store} (a : Gr q S0 S) (hn : S0.length ≤ n) : Gr q S0 (S.set n c) := ⟨by rw [List.length_set]; exact a.len, fun m hm k => by
  rw [List.getElem?_set_ne (by omega)]; exact a.same m hm k⟩
theorem Gr.get (a : Gr q S S') (h : S[n]? = some c) (k : ¬ q n) : S'[n]? = some c := by
  rw [a.same n (List.getElem?_eq_some_iff.mp h).1 k]; exact h
theorem get_app (S : Store) (c : Cell) : (S ++ [c])[S.length]? = some c := by
  rw [List.getElem?_append_right (Nat.le_refl _), Nat.sub_self]; rfl
theorem lt_of_get (h : S[n]? = some c) : n < S.length := (List.getElem?_eq_some_iff.mp h).1
end

/-! ### lists of ints -/
theorem mapO_map {α β γ : Type} {f : β → Option γ} {g : α → β} {h : α → γ} : ∀ {l : List α}, (∀ x ∈ l, f (g x) = some (h x)) → mapO f (l.map g) = some (l.map h)
  | [], _ => rfl
  | x :: xs, e => by
    rw [List.map_cons]
    unfold mapO
    rw [e x List.mem_cons_self, mapO_map fun y hy => e y (List.mem_cons_of_mem _ hy)]
    rfl
theorem deep_intsO (S : Store) (k : Nat) (ns : List Int) : mapO (deep S (k + 1)) (ns.map D.int) = some (ns.map PyData.int) := mapO_map fun x _ => by unfold deep; rfl
theorem deep_intsT (S : Store) (k : Nat) (ns : List Int) : deep S (k + 2) (.tup (ns.map D.int)) = some (.tuple (ns.map PyData.int)) := by
  unfold deep; rw [deep_intsO]; rfl
theorem deep_intsL {S : Store} {n : Nat} (k : Nat) (ns : List Int) (h : S[n]? = some (.lst (ns.map D.int))) : deep S (k + 2) (.ptr n) = some (.list (ns.map PyData.int)) := by
  unfold deep; rw [h]; simp only; rw [deep_intsO]; rfl
theorem depth_ints : ∀ ns : List Int, PyData.depthAll (ns.map PyData.int) = 0
  | [] => rfl
  | n :: ns => by
    rw [List.map_cons]; unfold PyData.depthAll
    rw [depth_ints ns]; rfl
theorem canLay_ints : ∀ ns : List Int, PyData.canLayAll0 (ns.map PyData.int) = true
  | [] => rfl
  | n :: ns => by
    rw [List.map_cons]; unfold PyData.canLayAll0
    rw [canLay_ints ns]; rfl
theorem shaped_intsL (ns : List Int) : SeqAt.shaped (.list (ns.map PyData.int)) = true := by
  unfold SeqAt.shaped PyData.canLay0 PyData.depth
  rw [canLay_ints, depth_ints]; rfl
theorem shaped_intsT (ns : List Int) : SeqAt.shaped (.tuple (ns.map PyData.int)) = true := by
  unfold SeqAt.shaped PyData.canLay0 PyData.depth
  rw [canLay_ints, depth_ints]; rfl
theorem eqv_intsL : ∀ ns ms : List Int, PyData.eqvAll (ns.map PyData.int) (ms.map PyData.int) = decide (ns = ms)
  | [], [] => rfl
  | [], _ :: _ => rfl
  | _ :: _, [] => rfl
  | n :: ns, m :: ms => by
    rw [List.map_cons, List.map_cons]
    unfold PyData.eqvAll
    rw [eqv_intsL ns ms]
    unfold PyData.eqv
    by_cases h : n = m <;> by_cases h2 : ns = ms <;> simp [h, h2]
theorem mem_range {lo : Int} {n : Nat} {x : D} (h : x ∈ rangeD lo n) : ∃ i : Nat, i < n ∧ x = .int (lo + i) := by
  unfold rangeD at h
  obtain ⟨i, hi, rfl⟩ := List.mem_map.mp h
  exact ⟨i, List.mem_range.mp hi, rfl⟩
theorem atD_nat {xs : List D} {i : Nat} {d : D} (h : xs[i]? = some d) : atD xs (i : Int) = some d := by
  have hl := (List.getElem?_eq_some_iff.mp h).1
  unfold atD atI ixN
  rw [if_pos (by omega), if_pos (by omega)]
  show xs[((i : Nat) : Int).toNat]? = some d
  rw [Int.toNat_natCast]; exact h
theorem Ok.and {α : Type} {r : Res α} {P Q : α → Store → Prop} (h : Ok r P) (g : Ok r Q) : Ok r fun a S => P a S ∧ Q a S := by
  cases r with
  | ok a S => exact ⟨h, g⟩
  | exn x S => exact h.elim
  | bad => exact h.elim

/-! ### data that can be shown -/
structure Tame (p : PyData) : Prop where
  sh : p.showable = true
  lv : p.leavesShort 100 = true
  dp : p.depth ≤ 12
  wt : p.weight ≤ 50000
theorem Tame.len {p : PyData} (h : Tame p) : p.shown.length ≤ sizeLine := by
  have h1 := PyData.shown_le 100 (by decide) p h.lv
  have h2 := h.wt
  have e : sizeLine = 16777216 := by decide
  have : (100 + 2) * p.weight ≤ 102 * 50000 := Nat.mul_le_mul (by omega) h2
  omega
theorem Ok_repr {d : D} {S : Store} {p : PyData} {P : D → Store → Prop} (e : deep S deepLine d = some p) (t : Tame p) (h : P (.str p.shown) S) : Ok (fRepr [d] S) P := by
  show Ok (match deep S deepLine d with
      | some p => if p.showable = true ∧ p.shown.length ≤ sizeLine ∧ p.depth ≤ 60 then .ok (.str p.shown) S else .bad
      | none => .bad) P
  rw [e]
  simp only
  rw [if_pos ⟨t.sh, t.len, by have := t.dp; omega⟩]
  exact h
end RL

set_option maxHeartbeats 4000000
namespace K01
open PySem PySem.Spec PyProof.Rows L2 RL

def topS (i : Nat) : Stmt := PySem.Challenge.pw_clearsheets_k01_groups_and_parts.main.body.getD i (.Pass ⟨0, 0, 0, 0⟩)
abbrev s_is_whole : Stmt := topS 1
abbrev s_is_group : Stmt := topS 3
abbrev s_parts : Stmt := topS 5
abbrev s_groups : Stmt := topS 4
abbrev s__law_deck : Stmt := topS 7
abbrev s__law_take : Stmt := topS 8
abbrev s__law_pick : Stmt := topS 9
abbrev s__law_odd : Stmt := topS 10
abbrev s__law_parts : Stmt := topS 11
abbrev s__law_groups : Stmt := topS 12
abbrev s__law_group : Stmt := topS 13
abbrev s__law_is_whole : Stmt := topS 14
abbrev s__law_is_group : Stmt := topS 15
abbrev s__law_bent_group : Stmt := topS 16
abbrev s_law : Stmt := topS 17

abbrev n_is_whole : List Str := ["value", "low", "high"]
abbrev p_is_whole : List Str := ["value", "low", "high"]
theorem c_is_whole : FnScope n_is_whole p_is_whole (defScope s_is_whole) := ⟨rfl, rfl, rfl, by decide +kernel, rfl, by decide +kernel, by decide +kernel⟩
noncomputable def b_is_whole : MS :=
  (sSeq (sRet (eAndV (eIsi "int" (eVar 0)) (eAndV (eNotV (eIsi "bool" (eVar 0))) (eChain oLe oLe (eVar 1) (eVar 0) (eVar 2)))))
  sPass)
noncomputable def f_is_whole : Fn := mBody 3 b_is_whole
theorem g_is_whole {P : Program} {w : World} {K : PySem.W.Frag} {mg : Str → Option Value} {base : Heap} (m_isinstance : mg "isinstance" = none) (m_int : mg "int" = none) (m_bool : mg "bool" = none) {f : Addr} {fd : FuncData} (Fu : Fun K "is_whole" "is_whole" s_is_whole f fd) : FnG P w K mg base 1 f fd p_is_whole f_is_whole :=
  fn_sound Fu c_is_whole fun cdv A outer s H E c => (sss_cons (ss_ret (se_and (se_isi (T := "int") m_isinstance (by decide) m_int PyProof.Rows.boot_int (se_var 0)) (se_and (se_not (se_isi (T := "bool") m_isinstance (by decide) m_bool PyProof.Rows.boot_bool (se_var 0))) (se_one (se_chain op_le od_le op_le od_le (se_var 1) (se_var 0) (se_var 2))))))
  sss_nil)

abbrev n_is_group : List Str := ["holders", "value", "least", "item"]
abbrev p_is_group : List Str := ["holders", "value"]
theorem c_is_group : FnScope n_is_group p_is_group (defScope s_is_group) := ⟨rfl, rfl, rfl, by decide +kernel, rfl, by decide +kernel, by decide +kernel⟩
noncomputable def b_is_group : MS :=
  (sSeq (sIf (tNotM (tOf (eIsi "tuple" (eVar 1))))
  (sSeq (sRet (eC (.bl false)))
  sPass)
  sPass)
  (sSeq (sSet 2 (eC (.int 0)))
  (sSeq (sFor (iAnyM (eVar 1)) (gNm 3)
  (sSeq (sIf (tNotM (tOf (eFn1 3 f_is_whole (aCons (eVar 3) (aCons (eVar 2) (aCons (eBin oSub (eVar 0) (eC (.int 1))) aNil))))))
  (sSeq (sRet (eC (.bl false)))
  sPass)
  sPass)
  (sSeq (sSet 2 (eBin oAdd (eVar 3) (eC (.int 1))))
  sPass)))
  (sSeq (sRet (eC (.bl true)))
  sPass))))
noncomputable def f_is_group : Fn := mBody 4 b_is_group
theorem g_is_group {P : Program} {w : World} {K : PySem.W.Frag} {mg : Str → Option Value} {base : Heap} (m_isinstance : mg "isinstance" = none) (m_tuple : mg "tuple" = none) (d_is_whole : Known P w K mg base 1 "is_whole" s_is_whole p_is_whole f_is_whole) {f : Addr} {fd : FuncData} (Fu : Fun K "is_group" "is_group" s_is_group f fd) : FnG P w K mg base 2 f fd p_is_group f_is_group :=
  fn_sound Fu c_is_group fun cdv A outer s H E c => (sss_cons (ss_if (st_not (st_val (se_isi (T := "tuple") m_isinstance (by decide) m_tuple PyProof.Rows.boot_tuple (se_var 1))))
  (sss_cons (ss_ret se_bl)
  sss_nil)
  sss_nil)
  (sss_cons (ss_set 2 c.nd se_int)
  (sss_cons (ss_for c (si_any (se_var 1)) (sg_name 3 c.nd)
  (sss_cons (ss_if (st_not (st_val (se_callD c d_is_whole (by decide) 3 rfl (sa_cons (se_var 3) (sa_cons (se_var 2) (sa_cons (se_sub (se_var 0) se_int) sa_nil))))))
  (sss_cons (ss_ret se_bl)
  sss_nil)
  sss_nil)
  (sss_cons (ss_set 2 c.nd (se_add (se_var 3) se_int))
  sss_nil)))
  (sss_cons (ss_ret se_bl)
  sss_nil))))

abbrev n_parts : List Str := ["group", "found", "holder", "part"]
abbrev p_parts : List Str := ["group"]
theorem c_parts : FnScope n_parts p_parts (defScope s_parts) := ⟨rfl, rfl, rfl, by decide +kernel, rfl, by decide +kernel, by decide +kernel⟩
noncomputable def b_parts : MS :=
  (sSeq (sSet 1 (eLst (aCons (eTup aNil) aNil)))
  (sSeq (sFor (iAnyM (eVar 0)) (gNm 2)
  (sSeq (sSet 1 (eBin oAdd (eVar 1) (eComp (iAnyM (eVar 1)) (bNm 3) [3] tYesM (eBin oAdd (eVar 3) (eTup (aCons (eVar 2) aNil))))))
  sPass))
  (sSeq (sRet (eCall fTuple (aCons (eCall fSorted (aCons (eVar 1) aNil)) aNil)))
  sPass)))
noncomputable def f_parts : Fn := mBody 4 b_parts
theorem g_parts {P : Program} {w : World} {K : PySem.W.Frag} {mg : Str → Option Value} {base : Heap} (m_tuple : mg "tuple" = none) (m_sorted : mg "sorted" = none) {f : Addr} {fd : FuncData} (Fu : Fun K "parts" "parts" s_parts f fd) : FnG P w K mg base 1 f fd p_parts f_parts :=
  fn_sound Fu c_parts fun cdv A outer s H E c => (sss_cons (ss_set 1 c.nd (se_lst (sa_cons (se_tup sa_nil) sa_nil)))
  (sss_cons (ss_for c (si_any (se_var 0)) (sg_name 2 c.nd)
  (sss_cons (ss_set 1 c.nd (se_add (se_var 1) (se_comp c (si_any (se_var 1)) (blkOk_by (N := n_parts) (sc := defScope s_parts) (own := [("part", 3)]) (by decide +kernel)) (fun _ _ _ _ _ => pg_name (i := 3) c.nd rfl (Or.inl rfl)) (fun _ _ _ _ _ => pts_nilM) (fun s1 H1 C1 cl1 fp1 => (se_add (se_var 3) (se_tup (sa_cons (se_var 2) sa_nil)))))))
  sss_nil))
  (sss_cons (ss_ret (se_callTy call_tuple_of cd_tuple m_tuple PyProof.Rows.boot_tuple (sa_cons (se_callB (call_sorted c) cd_sorted m_sorted boot_sorted (sa_cons (se_var 1) sa_nil)) sa_nil)))
  sss_nil)))

abbrev n_groups : List Str := ["holders"]
abbrev p_groups : List Str := ["holders"]
theorem c_groups : FnScope n_groups p_groups (defScope s_groups) := ⟨rfl, rfl, rfl, by decide +kernel, rfl, by decide +kernel, by decide +kernel⟩
noncomputable def b_groups : MS :=
  (sSeq (sRet (eFn1 1 f_parts (aCons (eRg1 fTupRg (eVar 0)) aNil)))
  sPass)
noncomputable def f_groups : Fn := mBody 1 b_groups
theorem g_groups {P : Program} {w : World} {K : PySem.W.Frag} {mg : Str → Option Value} {base : Heap} (m_tuple : mg "tuple" = none) (m_range : mg "range" = none) (d_parts : Known P w K mg base 1 "parts" s_parts p_parts f_parts) {f : Addr} {fd : FuncData} (Fu : Fun K "groups" "groups" s_groups f fd) : FnG P w K mg base 2 f fd p_groups f_groups :=
  fn_sound Fu c_groups fun cdv A outer s H E c => (sss_cons (ss_ret (se_callD c d_parts (by decide) 1 rfl (sa_cons (se_tupRg1 c m_tuple m_range (se_var 0)) sa_nil)))
  sss_nil)

abbrev n__law_deck : List Str := ["_law_script", "_law_great", "_law_small", "_law_cell"]
abbrev p__law_deck : List Str := ["_law_script"]
theorem c__law_deck : FnScope n__law_deck p__law_deck (defScope s__law_deck) := ⟨rfl, rfl, rfl, by decide +kernel, rfl, by decide +kernel, by decide +kernel⟩
noncomputable def b__law_deck : MS :=
  (sSeq (sPar 1 2 (aCons (eC (.int 0)) (aCons (eBin oAdd (eC (.int 12752)) (eBin oMul (eC (.int 41)) (eCall fLen (aCons (eVar 0) aNil)))) aNil)))
  (sSeq (sFor (iAnyM (eSl (eVar 0) pNone (pSome (eC (.int 63))))) (gNm 3)
  (sSeq (sIf (tOf (eBin oGe (eVar 3) (eBin oPow (eC (.int 10)) (eC (.int 18)))))
  (sSeq (sSet 1 (eBin oSub (eBin oAdd (eBin oMul (eVar 1) (eC (.int 47))) (eVar 3)) (eBin oPow (eC (.int 10)) (eC (.int 18)))))
  sPass)
  (sSeq (sSet 2 (eBin oAdd (eBin oAdd (eBin oMul (eVar 2) (eC (.int 3202034522624059733))) (eBin oMul (eC (.int 2)) (eCall fAbs (aCons (eVar 3) aNil)))) (eCall fInt (aCons (eBin oLt (eVar 3) (eC (.int 0))) aNil))))
  (sSeq (sSet 2 (eBin oMod (eCall fInt (aCons (eVar 2) aNil)) (eC (.int 2305843009213693951))))
  sPass)))
  sPass))
  (sSeq (sRet (eLst (aCons (eVar 1) (aCons (eVar 2) (aCons (eC (.int 0)) aNil)))))
  sPass)))
noncomputable def f__law_deck : Fn := mBody 4 b__law_deck
theorem g__law_deck {P : Program} {w : World} {K : PySem.W.Frag} {mg : Str → Option Value} {base : Heap} (m_len : mg "len" = none) (m_int : mg "int" = none) (m_abs : mg "abs" = none) {f : Addr} {fd : FuncData} (Fu : Fun K "_law_deck" "_law_deck" s__law_deck f fd) : FnG P w K mg base 1 f fd p__law_deck f__law_deck :=
  fn_sound Fu c__law_deck fun cdv A outer s H E c => (sss_cons (ss_par 1 2 c (sa_cons se_int (sa_cons (se_add se_int (se_mul se_int (se_callB call_len cd_len m_len boot_len (sa_cons (se_var 0) sa_nil)))) sa_nil)))
  (sss_cons (ss_for c (si_any (se_slice (se_var 0) so_none (so_some se_int))) (sg_name 3 c.nd)
  (sss_cons (ss_if (st_cmp op_ge od_ge (se_var 3) (se_pow se_int se_int))
  (sss_cons (ss_set 1 c.nd (se_sub (se_add (se_mul (se_var 1) se_int) (se_var 3)) (se_pow se_int se_int)))
  sss_nil)
  (sss_cons (ss_set 2 c.nd (se_add (se_add (se_mul (se_var 2) se_int) (se_mul se_int (se_callB call_abs cd_abs m_abs boot_abs (sa_cons (se_var 3) sa_nil)))) (se_callTy call_int1 cd_int m_int PyProof.Rows.boot_int (sa_cons (se_cmp op_lt od_lt (se_var 3) se_int) sa_nil))))
  (sss_cons (ss_set 2 c.nd (se_mod (se_callTy call_int1 cd_int m_int PyProof.Rows.boot_int (sa_cons (se_var 2) sa_nil)) se_int))
  sss_nil)))
  sss_nil))
  (sss_cons (ss_ret (se_lst (sa_cons (se_var 1) (sa_cons (se_var 2) (sa_cons se_int sa_nil)))))
  sss_nil)))

abbrev n__law_take : List Str := ["_law_deck_here", "_law_many", "_law_digit", "_law_mixed"]
abbrev p__law_take : List Str := ["_law_deck_here", "_law_many"]
theorem c__law_take : FnScope n__law_take p__law_take (defScope s__law_take) := ⟨rfl, rfl, rfl, by decide +kernel, rfl, by decide +kernel, by decide +kernel⟩
noncomputable def b__law_take : MS :=
  (sSeq (sIf (tOf (eBin oGt (eBin oIx (eVar 0) (eC (.int 0))) (eC (.int 0))))
  (sSeq (sSet 2 (eBin oMod (eCall fInt (aCons (eBin oIx (eVar 0) (eC (.int 0))) aNil)) (eVar 1)))
  (sSeq (sAsg (eBin oDiv (eBin oIx (eVar 0) (eC (.int 0))) (eVar 1)) (gSubM (eVar 0) (eC (.int 0))))
  (sSeq (sRet (eVar 2))
  sPass)))
  sPass)
  (sSeq (sAsg (eBin oAdd (eBin oIx (eVar 0) (eC (.int 2))) (eC (.int 1))) (gSubM (eVar 0) (eC (.int 2))))
  (sSeq (sSet 3 (eBin oAdd (eBin oAdd (eBin oMul (eBin oIx (eVar 0) (eC (.int 1))) (eC (.int 2862933555777941757))) (eBin oMul (eC (.int 1181783497276652981)) (eBin oIx (eVar 0) (eC (.int 2))))) (eC (.int 7))))
  (sSeq (sAsg (eBin oMod (eCall fInt (aCons (eVar 3) aNil)) (eC (.int 2305843009213693951))) (gSubM (eVar 0) (eC (.int 1))))
  (sSeq (sRet (eBin oMod (eBin oDiv (eBin oMod (eCall fInt (aCons (eBin oMul (eBin oIx (eVar 0) (eC (.int 1))) (eBin oIx (eVar 0) (eC (.int 1)))) aNil)) (eC (.int 2305843009213693921))) (eC (.int 4096))) (eVar 1)))
  sPass)))))
noncomputable def f__law_take : Fn := mBody 4 b__law_take
theorem g__law_take {P : Program} {w : World} {K : PySem.W.Frag} {mg : Str → Option Value} {base : Heap} (m_int : mg "int" = none) {f : Addr} {fd : FuncData} (Fu : Fun K "_law_take" "_law_take" s__law_take f fd) : FnG P w K mg base 1 f fd p__law_take f__law_take :=
  fn_sound Fu c__law_take fun cdv A outer s H E c => (sss_cons (ss_if (st_cmp op_gt od_gt (se_ix (se_var 0) se_int) se_int)
  (sss_cons (ss_set 2 c.nd (se_mod (se_callTy call_int1 cd_int m_int PyProof.Rows.boot_int (sa_cons (se_ix (se_var 0) se_int) sa_nil)) (se_var 1)))
  (sss_cons (ss_asg (se_div (se_ix (se_var 0) se_int) (se_var 1)) (sg_sub (se_var 0) se_int))
  (sss_cons (ss_ret (se_var 2))
  sss_nil)))
  sss_nil)
  (sss_cons (ss_asg (se_add (se_ix (se_var 0) se_int) se_int) (sg_sub (se_var 0) se_int))
  (sss_cons (ss_set 3 c.nd (se_add (se_add (se_mul (se_ix (se_var 0) se_int) se_int) (se_mul se_int (se_ix (se_var 0) se_int))) se_int))
  (sss_cons (ss_asg (se_mod (se_callTy call_int1 cd_int m_int PyProof.Rows.boot_int (sa_cons (se_var 3) sa_nil)) se_int) (sg_sub (se_var 0) se_int))
  (sss_cons (ss_ret (se_mod (se_div (se_mod (se_callTy call_int1 cd_int m_int PyProof.Rows.boot_int (sa_cons (se_mul (se_ix (se_var 0) se_int) (se_ix (se_var 0) se_int)) sa_nil)) se_int) se_int) (se_var 1)))
  sss_nil)))))

abbrev n__law_pick : List Str := ["_law_deck_here", "_law_some"]
abbrev p__law_pick : List Str := ["_law_deck_here", "_law_some"]
theorem c__law_pick : FnScope n__law_pick p__law_pick (defScope s__law_pick) := ⟨rfl, rfl, rfl, by decide +kernel, rfl, by decide +kernel, by decide +kernel⟩
noncomputable def b__law_pick : MS :=
  (sSeq (sRet (eBin oIx (eVar 1) (eFn1 2 f__law_take (aCons (eVar 0) (aCons (eCall fLen (aCons (eVar 1) aNil)) aNil)))))
  sPass)
noncomputable def f__law_pick : Fn := mBody 2 b__law_pick
theorem g__law_pick {P : Program} {w : World} {K : PySem.W.Frag} {mg : Str → Option Value} {base : Heap} (m_len : mg "len" = none) (d__law_take : Known P w K mg base 1 "_law_take" s__law_take p__law_take f__law_take) {f : Addr} {fd : FuncData} (Fu : Fun K "_law_pick" "_law_pick" s__law_pick f fd) : FnG P w K mg base 2 f fd p__law_pick f__law_pick :=
  fn_sound Fu c__law_pick fun cdv A outer s H E c => (sss_cons (ss_ret (se_ix (se_var 1) (se_callD c d__law_take (by decide) 2 rfl (sa_cons (se_var 0) (sa_cons (se_callB call_len cd_len m_len boot_len (sa_cons (se_var 1) sa_nil)) sa_nil)))))
  sss_nil)

abbrev n__law_odd : List Str := ["_law_deck_here", "_law_some"]
abbrev p__law_odd : List Str := ["_law_deck_here"]
theorem c__law_odd : FnScope n__law_odd p__law_odd (defScope s__law_odd) := ⟨rfl, rfl, rfl, by decide +kernel, rfl, by decide +kernel, by decide +kernel⟩
noncomputable def b__law_odd : MS :=
  (sSeq (sSet 1 (eLst (aCons (eC .non) (aCons (eC (.bl true)) (aCons (eC (.bl false)) (aCons (eC (.int 0)) (aCons (eC (.int 1)) (aCons (eNeg (eC (.int 1))) (aCons (eC (.int 2)) (aCons (eBin oPow (eC (.int 10)) (eC (.int 59))) (aCons (eC (.str "")) (aCons (eC (.str "any")) (aCons (eC (.str "odd")) (aCons (eC (.str "0")) (aCons (eC (.str "tone")) (aCons (eTup aNil) (aCons (eTup (aCons (eC (.int 0)) aNil)) (aCons (eTup (aCons (eC (.int 0)) (aCons (eC (.int 1)) aNil))) (aCons (eTup (aCons (eC (.int 1)) (aCons (eC (.int 0)) aNil))) (aCons (eTup (aCons (eC (.int 0)) (aCons (eC (.int 0)) aNil))) (aCons (eLst (aCons (eC (.int 0)) aNil)) (aCons (eLst aNil) (aCons eDict0 aNil)))))))))))))))))))))))
  (sSeq (sRet (eFn1 2 f__law_pick (aCons (eVar 0) (aCons (eBin oAdd (eVar 1) (eLst (aCons (eTup (aCons (eTup aNil) aNil)) (aCons (eTup (aCons (eTup (aCons (eC (.int 0)) aNil)) aNil)) (aCons (eTup (aCons (eC .non) aNil)) (aCons (eTup (aCons (eC (.bl true)) aNil)) (aCons (eTup (aCons (eC (.str "0")) aNil)) (aCons (eDict1 (.inr "0") (eC (.int 1))) (aCons (eTup (aCons (eTup (aCons (eC (.int 0)) (aCons (eC (.int 1)) aNil))) (aCons (eTup (aCons (eC (.int 1)) (aCons (eC (.int 2)) aNil))) aNil))) (aCons (eTup (aCons (eC (.int 1)) (aCons (eC (.str "any")) (aCons (eTup aNil) aNil)))) (aCons (eTup (aCons (eC (.int 2)) (aCons (eTup aNil) (aCons (eTup aNil) aNil)))) aNil))))))))))) aNil))))
  sPass))
noncomputable def f__law_odd : Fn := mBody 2 b__law_odd
theorem g__law_odd {P : Program} {w : World} {K : PySem.W.Frag} {mg : Str → Option Value} {base : Heap} (d__law_pick : Known P w K mg base 2 "_law_pick" s__law_pick p__law_pick f__law_pick) {f : Addr} {fd : FuncData} (Fu : Fun K "_law_odd" "_law_odd" s__law_odd f fd) : FnG P w K mg base 3 f fd p__law_odd f__law_odd :=
  fn_sound Fu c__law_odd fun cdv A outer s H E c => (sss_cons (ss_set 1 c.nd (se_lst (sa_cons se_non (sa_cons se_bl (sa_cons se_bl (sa_cons se_int (sa_cons se_int (sa_cons (se_neg se_int) (sa_cons se_int (sa_cons (se_pow se_int se_int) (sa_cons se_str (sa_cons se_str (sa_cons se_str (sa_cons se_str (sa_cons se_str (sa_cons (se_tup sa_nil) (sa_cons (se_tup (sa_cons se_int sa_nil)) (sa_cons (se_tup (sa_cons se_int (sa_cons se_int sa_nil))) (sa_cons (se_tup (sa_cons se_int (sa_cons se_int sa_nil))) (sa_cons (se_tup (sa_cons se_int (sa_cons se_int sa_nil))) (sa_cons (se_lst (sa_cons se_int sa_nil)) (sa_cons (se_lst sa_nil) (sa_cons se_dict0 sa_nil)))))))))))))))))))))))
  (sss_cons (ss_ret (se_callD c d__law_pick (by decide) 2 rfl (sa_cons (se_var 0) (sa_cons (se_add (se_var 1) (se_lst (sa_cons (se_tup (sa_cons (se_tup sa_nil) sa_nil)) (sa_cons (se_tup (sa_cons (se_tup (sa_cons se_int sa_nil)) sa_nil)) (sa_cons (se_tup (sa_cons se_non sa_nil)) (sa_cons (se_tup (sa_cons se_bl sa_nil)) (sa_cons (se_tup (sa_cons se_str sa_nil)) (sa_cons (se_dict1 (k := .inr "0") pe_str se_int) (sa_cons (se_tup (sa_cons (se_tup (sa_cons se_int (sa_cons se_int sa_nil))) (sa_cons (se_tup (sa_cons se_int (sa_cons se_int sa_nil))) sa_nil))) (sa_cons (se_tup (sa_cons se_int (sa_cons se_str (sa_cons (se_tup sa_nil) sa_nil)))) (sa_cons (se_tup (sa_cons se_int (sa_cons (se_tup sa_nil) (sa_cons (se_tup sa_nil) sa_nil)))) sa_nil))))))))))) sa_nil))))
  sss_nil))

abbrev n__law_parts : List Str := ["_law_group_here", "_law_found", "_law_holder", "_law_part"]
abbrev p__law_parts : List Str := ["_law_group_here"]
theorem c__law_parts : FnScope n__law_parts p__law_parts (defScope s__law_parts) := ⟨rfl, rfl, rfl, by decide +kernel, rfl, by decide +kernel, by decide +kernel⟩
noncomputable def b__law_parts : MS :=
  (sSeq (sSet 1 (eLst (aCons (eTup aNil) aNil)))
  (sSeq (sFor (iAnyM (eVar 0)) (gNm 2)
  (sSeq (sSet 1 (eBin oAdd (eVar 1) (eComp (iAnyM (eVar 1)) (bNm 3) [3] tYesM (eBin oAdd (eVar 3) (eTup (aCons (eVar 2) aNil))))))
  sPass))
  (sSeq (sRet (eCall fSorted (aCons (eVar 1) aNil)))
  sPass)))
noncomputable def f__law_parts : Fn := mBody 4 b__law_parts
theorem g__law_parts {P : Program} {w : World} {K : PySem.W.Frag} {mg : Str → Option Value} {base : Heap} (m_sorted : mg "sorted" = none) {f : Addr} {fd : FuncData} (Fu : Fun K "_law_parts" "_law_parts" s__law_parts f fd) : FnG P w K mg base 1 f fd p__law_parts f__law_parts :=
  fn_sound Fu c__law_parts fun cdv A outer s H E c => (sss_cons (ss_set 1 c.nd (se_lst (sa_cons (se_tup sa_nil) sa_nil)))
  (sss_cons (ss_for c (si_any (se_var 0)) (sg_name 2 c.nd)
  (sss_cons (ss_set 1 c.nd (se_add (se_var 1) (se_comp c (si_any (se_var 1)) (blkOk_by (N := n__law_parts) (sc := defScope s__law_parts) (own := [("_law_part", 3)]) (by decide +kernel)) (fun _ _ _ _ _ => pg_name (i := 3) c.nd rfl (Or.inl rfl)) (fun _ _ _ _ _ => pts_nilM) (fun s1 H1 C1 cl1 fp1 => (se_add (se_var 3) (se_tup (sa_cons (se_var 2) sa_nil)))))))
  sss_nil))
  (sss_cons (ss_ret (se_callB (call_sorted c) cd_sorted m_sorted boot_sorted (sa_cons (se_var 1) sa_nil)))
  sss_nil)))

abbrev n__law_groups : List Str := ["_law_holders"]
abbrev p__law_groups : List Str := ["_law_holders"]
theorem c__law_groups : FnScope n__law_groups p__law_groups (defScope s__law_groups) := ⟨rfl, rfl, rfl, by decide +kernel, rfl, by decide +kernel, by decide +kernel⟩
noncomputable def b__law_groups : MS :=
  (sSeq (sRet (eFn1 1 f__law_parts (aCons (eRg1 fLstRg (eVar 0)) aNil)))
  sPass)
noncomputable def f__law_groups : Fn := mBody 1 b__law_groups
theorem g__law_groups {P : Program} {w : World} {K : PySem.W.Frag} {mg : Str → Option Value} {base : Heap} (m_list : mg "list" = none) (m_range : mg "range" = none) (d__law_parts : Known P w K mg base 1 "_law_parts" s__law_parts p__law_parts f__law_parts) {f : Addr} {fd : FuncData} (Fu : Fun K "_law_groups" "_law_groups" s__law_groups f fd) : FnG P w K mg base 2 f fd p__law_groups f__law_groups :=
  fn_sound Fu c__law_groups fun cdv A outer s H E c => (sss_cons (ss_ret (se_callD c d__law_parts (by decide) 1 rfl (sa_cons (se_listRg1 c m_list m_range (se_var 0)) sa_nil)))
  sss_nil)

abbrev n__law_group : List Str := ["_law_deck_here", "_law_holders"]
abbrev p__law_group : List Str := ["_law_deck_here", "_law_holders"]
theorem c__law_group : FnScope n__law_group p__law_group (defScope s__law_group) := ⟨rfl, rfl, rfl, by decide +kernel, rfl, by decide +kernel, by decide +kernel⟩
noncomputable def b__law_group : MS :=
  (sSeq (sRet (eFn1 2 f__law_pick (aCons (eVar 0) (aCons (eFn1 1 f__law_groups (aCons (eVar 1) aNil)) aNil))))
  sPass)
noncomputable def f__law_group : Fn := mBody 2 b__law_group
theorem g__law_group {P : Program} {w : World} {K : PySem.W.Frag} {mg : Str → Option Value} {base : Heap} (d__law_pick : Known P w K mg base 2 "_law_pick" s__law_pick p__law_pick f__law_pick) (d__law_groups : Known P w K mg base 2 "_law_groups" s__law_groups p__law_groups f__law_groups) {f : Addr} {fd : FuncData} (Fu : Fun K "_law_group" "_law_group" s__law_group f fd) : FnG P w K mg base 3 f fd p__law_group f__law_group :=
  fn_sound Fu c__law_group fun cdv A outer s H E c => (sss_cons (ss_ret (se_callD c d__law_pick (by decide) 2 rfl (sa_cons (se_var 0) (sa_cons (se_callD c d__law_groups (by decide) 1 rfl (sa_cons (se_var 1) sa_nil)) sa_nil))))
  sss_nil)

abbrev n__law_is_whole : List Str := ["_law_value", "_law_low", "_law_high"]
abbrev p__law_is_whole : List Str := ["_law_value", "_law_low", "_law_high"]
theorem c__law_is_whole : FnScope n__law_is_whole p__law_is_whole (defScope s__law_is_whole) := ⟨rfl, rfl, rfl, by decide +kernel, rfl, by decide +kernel, by decide +kernel⟩
noncomputable def b__law_is_whole : MS :=
  (sSeq (sRet (eAndV (eIsi "int" (eVar 0)) (eAndV (eNotV (eIsi "bool" (eVar 0))) (eChain oLe oLe (eVar 1) (eVar 0) (eVar 2)))))
  sPass)
noncomputable def f__law_is_whole : Fn := mBody 3 b__law_is_whole
theorem g__law_is_whole {P : Program} {w : World} {K : PySem.W.Frag} {mg : Str → Option Value} {base : Heap} (m_isinstance : mg "isinstance" = none) (m_int : mg "int" = none) (m_bool : mg "bool" = none) {f : Addr} {fd : FuncData} (Fu : Fun K "_law_is_whole" "_law_is_whole" s__law_is_whole f fd) : FnG P w K mg base 1 f fd p__law_is_whole f__law_is_whole :=
  fn_sound Fu c__law_is_whole fun cdv A outer s H E c => (sss_cons (ss_ret (se_and (se_isi (T := "int") m_isinstance (by decide) m_int PyProof.Rows.boot_int (se_var 0)) (se_and (se_not (se_isi (T := "bool") m_isinstance (by decide) m_bool PyProof.Rows.boot_bool (se_var 0))) (se_one (se_chain op_le od_le op_le od_le (se_var 1) (se_var 0) (se_var 2))))))
  sss_nil)

abbrev n__law_is_group : List Str := ["_law_holders", "_law_value", "_law_holder", "_law_at"]
abbrev p__law_is_group : List Str := ["_law_holders", "_law_value"]
theorem c__law_is_group : FnScope n__law_is_group p__law_is_group (defScope s__law_is_group) := ⟨rfl, rfl, rfl, by decide +kernel, rfl, by decide +kernel, by decide +kernel⟩
noncomputable def b__law_is_group : MS :=
  (sSeq (sIf (tOrM (tNotM (tOf (eIsi "tuple" (eVar 1)))) (tOf (eBin oNe (eComp (iAnyM (eVar 1)) (bNm 2) [2] (tNotM (tOf (eFn1 3 f__law_is_whole (aCons (eVar 2) (aCons (eC (.int 0)) (aCons (eBin oSub (eVar 0) (eC (.int 1))) aNil)))))) (eC (.int 1))) (eLst aNil))))
  (sSeq (sRet (eC (.bl false)))
  sPass)
  sPass)
  (sSeq (sRet (eBin oEq (eComp (iRngM2 (aCons (eC (.int 1)) (aCons (eCall fLen (aCons (eVar 1) aNil)) aNil))) (bNm 3) [3] (tOf (eBin oGe (eBin oIx (eVar 1) (eBin oSub (eVar 3) (eC (.int 1)))) (eBin oIx (eVar 1) (eVar 3)))) (eVar 3)) (eLst aNil)))
  sPass))
noncomputable def f__law_is_group : Fn := mBody 4 b__law_is_group
theorem g__law_is_group {P : Program} {w : World} {K : PySem.W.Frag} {mg : Str → Option Value} {base : Heap} (m_isinstance : mg "isinstance" = none) (m_tuple : mg "tuple" = none) (m_range : mg "range" = none) (m_len : mg "len" = none) (d__law_is_whole : Known P w K mg base 1 "_law_is_whole" s__law_is_whole p__law_is_whole f__law_is_whole) {f : Addr} {fd : FuncData} (Fu : Fun K "_law_is_group" "_law_is_group" s__law_is_group f fd) : FnG P w K mg base 2 f fd p__law_is_group f__law_is_group :=
  fn_sound Fu c__law_is_group fun cdv A outer s H E c => (sss_cons (ss_if (st_w (sw_or (st_not (st_val (se_isi (T := "tuple") m_isinstance (by decide) m_tuple PyProof.Rows.boot_tuple (se_var 1)))) (sw_or1 (st_cmp (op_neA c.hr.units) od_ne (se_comp c (si_any (se_var 1)) (blkOk_by (N := n__law_is_group) (sc := defScope s__law_is_group) (own := [("_law_holder", 2)]) (by decide +kernel)) (fun _ _ _ _ _ => pg_name (i := 2) c.nd rfl (Or.inl rfl)) (fun s1 H1 C1 cl1 fp1 => (pts_one (st_not (st_val (se_callD (Ctx.blk c _ s1 H1 C1 cl1 fp1) d__law_is_whole (by decide) 3 rfl (sa_cons (se_var 2) (sa_cons se_int (sa_cons (se_sub (se_var 0) se_int) sa_nil)))))))) (fun s1 H1 C1 cl1 fp1 => se_int)) (se_lst sa_nil)))))
  (sss_cons (ss_ret se_bl)
  sss_nil)
  sss_nil)
  (sss_cons (ss_ret (se_cmp (op_eqA c.hr.units) od_eq (se_comp c (si_range2 m_range (sa_cons se_int (sa_cons (se_callB call_len cd_len m_len boot_len (sa_cons (se_var 1) sa_nil)) sa_nil))) (blkOk_by (N := n__law_is_group) (sc := defScope s__law_is_group) (own := [("_law_at", 3)]) (by decide +kernel)) (fun _ _ _ _ _ => pg_name (i := 3) c.nd rfl (Or.inl rfl)) (fun s1 H1 C1 cl1 fp1 => (pts_one (st_cmp op_ge od_ge (se_ix (se_var 1) (se_sub (se_var 3) se_int)) (se_ix (se_var 1) (se_var 3))))) (fun s1 H1 C1 cl1 fp1 => (se_var 3))) (se_lst sa_nil)))
  sss_nil))

abbrev n__law_bent_group : List Str := ["_law_deck_here", "_law_group_here", "_law_some", "_law_one"]
abbrev p__law_bent_group : List Str := ["_law_deck_here", "_law_group_here"]
theorem c__law_bent_group : FnScope n__law_bent_group p__law_bent_group (defScope s__law_bent_group) := ⟨rfl, rfl, rfl, by decide +kernel, rfl, by decide +kernel, by decide +kernel⟩
noncomputable def b__law_bent_group : MS :=
  (sSeq (sSet 2 (eLst (aCons (eVar 1) (aCons (eRev (eVar 1)) (aCons (eBin oAdd (eVar 1) (eTup (aCons (eC (.int 0)) aNil))) (aCons (eCall fList (aCons (eVar 1) aNil)) (aCons (eSl (eVar 1) (pSome (eC (.int 1))) pNone) (aCons (eBin oAdd (eVar 1) (eTup (aCons (eC (.int 5)) aNil))) (aCons (eBin oAdd (eTup (aCons (eNeg (eC (.int 1))) aNil)) (eVar 1)) (aCons (eBin oAdd (eVar 1) (eTup (aCons (eC (.bl true)) aNil))) (aCons (eBin oAdd (eVar 1) (eTup (aCons (eC (.str "1")) aNil))) aNil)))))))))))
  (sSeq (sRet (eFn1 2 f__law_pick (aCons (eVar 0) (aCons (eBin oAdd (eVar 2) (eLst (aCons (eBin oAdd (eVar 1) (eTup (aCons (eC .non) aNil))) (aCons (eBin oAdd (eTup (aCons (eC (.bl false)) aNil)) (eVar 1)) (aCons (eCall fTuple (aCons (eComp (iAnyM (eVar 1)) (bNm 3) [3] tYesM (eIf (tOf (eBin oLt (eVar 3) (eC (.int 2)))) (eCall fBool (aCons (eVar 3) aNil)) (eVar 3))) aNil)) (aCons (eFn1 1 f__law_odd (aCons (eVar 0) aNil)) aNil)))))) aNil))))
  sPass))
noncomputable def f__law_bent_group : Fn := mBody 4 b__law_bent_group
theorem g__law_bent_group {P : Program} {w : World} {K : PySem.W.Frag} {mg : Str → Option Value} {base : Heap} (m_list : mg "list" = none) (m_tuple : mg "tuple" = none) (m_bool : mg "bool" = none) (d__law_pick : Known P w K mg base 2 "_law_pick" s__law_pick p__law_pick f__law_pick) (d__law_odd : Known P w K mg base 3 "_law_odd" s__law_odd p__law_odd f__law_odd) {f : Addr} {fd : FuncData} (Fu : Fun K "_law_bent_group" "_law_bent_group" s__law_bent_group f fd) : FnG P w K mg base 4 f fd p__law_bent_group f__law_bent_group :=
  fn_sound Fu c__law_bent_group fun cdv A outer s H E c => (sss_cons (ss_set 2 c.nd (se_lst (sa_cons (se_var 1) (sa_cons (se_rev (se_var 1)) (sa_cons (se_add (se_var 1) (se_tup (sa_cons se_int sa_nil))) (sa_cons (se_callTy call_list_of cd_list m_list PyProof.Rows.boot_list (sa_cons (se_var 1) sa_nil)) (sa_cons (se_slice (se_var 1) (so_some se_int) so_none) (sa_cons (se_add (se_var 1) (se_tup (sa_cons se_int sa_nil))) (sa_cons (se_add (se_tup (sa_cons (se_neg se_int) sa_nil)) (se_var 1)) (sa_cons (se_add (se_var 1) (se_tup (sa_cons se_bl sa_nil))) (sa_cons (se_add (se_var 1) (se_tup (sa_cons se_str sa_nil))) sa_nil)))))))))))
  (sss_cons (ss_ret (se_callD c d__law_pick (by decide) 2 rfl (sa_cons (se_var 0) (sa_cons (se_add (se_var 2) (se_lst (sa_cons (se_add (se_var 1) (se_tup (sa_cons se_non sa_nil))) (sa_cons (se_add (se_tup (sa_cons se_bl sa_nil)) (se_var 1)) (sa_cons (se_callTy call_tuple_of cd_tuple m_tuple PyProof.Rows.boot_tuple (sa_cons (se_comp c (si_any (se_var 1)) (blkOk_by (N := n__law_bent_group) (sc := defScope s__law_bent_group) (own := [("_law_one", 3)]) (by decide +kernel)) (fun _ _ _ _ _ => pg_name (i := 3) c.nd rfl (Or.inl rfl)) (fun _ _ _ _ _ => pts_nilM) (fun s1 H1 C1 cl1 fp1 => (se_if (st_cmp op_lt od_lt (se_var 3) se_int) (se_callTy call_bool1 cd_bool m_bool PyProof.Rows.boot_bool (sa_cons (se_var 3) sa_nil)) (se_var 3)))) sa_nil)) (sa_cons (se_callD c d__law_odd (by decide) 1 rfl (sa_cons (se_var 0) sa_nil)) sa_nil)))))) sa_nil))))
  sss_nil))

abbrev n_law : List Str := ["_law_script", "_law_deck_here", "_law_holders", "_law_every", "_law_group_here", "_law_some", "_law_value", "_law_shown", "_law_due", "_law_told", "_law_turn"]
abbrev p_law : List Str := ["_law_script"]
theorem c_law : FnScope n_law p_law (defScope s_law) := ⟨rfl, rfl, rfl, by decide +kernel, rfl, by decide +kernel, by decide +kernel⟩
noncomputable def b_law : MS :=
  (sSeq (sSet 1 (eFn1 1 f__law_deck (aCons (eVar 0) aNil)))
  (sSeq (sFor (iRngM2 (aCons (eC (.int 1)) (aCons (eC (.int 6)) aNil))) (gNm 2)
  (sSeq (sSet 3 (eFn1 1 f__law_groups (aCons (eVar 2) aNil)))
  (sSeq (sIf (tOf (eBin oNe (eCall fRepr (aCons (eLst (aCons (eFn1 1 f_groups (aCons (eVar 2) aNil)) (aCons (eFnK 0 1 1 [0] [] f_groups aNil (aCons (eVar 2) aNil)) aNil))) aNil)) (eCall fRepr (aCons (eBin oMul (eLst (aCons (eCall fTuple (aCons (eVar 3) aNil)) aNil)) (eC (.int 2))) aNil))))
  (sSeq (sRet (eC (.bl false)))
  sPass)
  sPass)
  (sSeq (sSet 4 (eFn1 2 f__law_group (aCons (eVar 1) (aCons (eVar 2) aNil))))
  (sSeq (sIf (tOf (eBin oNe (eCall fRepr (aCons (eLst (aCons (eFn1 1 f_parts (aCons (eVar 4) aNil)) (aCons (eFnK 0 1 1 [0] [] f_parts aNil (aCons (eVar 4) aNil)) (aCons (eFn1 1 f_parts (aCons (eTup aNil) aNil)) aNil)))) aNil)) (eCall fRepr (aCons (eBin oAdd (eBin oMul (eLst (aCons (eCall fTuple (aCons (eFn1 1 f__law_parts (aCons (eVar 4) aNil)) aNil)) aNil)) (eC (.int 2))) (eLst (aCons (eTup (aCons (eTup aNil) aNil)) aNil))) aNil))))
  (sSeq (sRet (eC (.bl false)))
  sPass)
  sPass)
  (sSeq (sSet 5 (eLst (aCons (eVar 4) (aCons (eBin oIx (eVar 3) (eNeg (eC (.int 1)))) (aCons (eBin oAdd (eBin oIx (eVar 3) (eNeg (eC (.int 1)))) (eTup (aCons (eVar 2) aNil))) (aCons (eTup (aCons (eVar 2) aNil)) (aCons (eTup (aCons (eNeg (eC (.int 1))) aNil)) (aCons (eTup aNil) (aCons (eTup (aCons (eC (.int 0)) (aCons (eC (.int 0)) aNil))) (aCons (eLst (aCons (eC (.int 0)) aNil)) (aCons eDict0 (aCons (eDict1 (.inl 0) (eC (.int 0))) (aCons (eC (.str "0")) aNil)))))))))))))
  (sSeq (sFor (iAnyM (eBin oAdd (eVar 5) (eComp (iRngM1 (aCons (eC (.int 8)) aNil)) (bNm 10) [10] tYesM (eFn1 2 f__law_bent_group (aCons (eVar 1) (aCons (eVar 4) aNil)))))) (gNm 6)
  (sSeq (sPar 7 8 (aCons (eCall fRepr (aCons (eVar 6) aNil)) (aCons (eFn1 2 f__law_is_group (aCons (eVar 2) (aCons (eVar 6) aNil))) aNil)))
  (sSeq (sSet 9 (eLst (aCons (eFn1 2 f_is_group (aCons (eVar 2) (aCons (eVar 6) aNil))) (aCons (eFnK 0 2 2 [1, 0] [] f_is_group aNil (aCons (eVar 6) (aCons (eVar 2) aNil))) aNil))))
  (sSeq (sIf (tOrM (tOf (eBin oNe (eCall fRepr (aCons (eVar 9) aNil)) (eCall fRepr (aCons (eLst (aCons (eVar 8) (aCons (eVar 8) aNil))) aNil)))) (tOf (eBin oNe (eCall fRepr (aCons (eVar 6) aNil)) (eVar 7))))
  (sSeq (sRet (eC (.bl false)))
  sPass)
  sPass)
  sPass))))
  sPass)))))))
  (sSeq (sRet (eC (.bl true)))
  sPass)))
noncomputable def f_law : Fn := mBody 11 b_law
theorem g_law {P : Program} {w : World} {K : PySem.W.Frag} {mg : Str → Option Value} {base : Heap} (m_range : mg "range" = none) (m_repr : mg "repr" = none) (m_tuple : mg "tuple" = none) (d__law_deck : Known P w K mg base 1 "_law_deck" s__law_deck p__law_deck f__law_deck) (d__law_groups : Known P w K mg base 2 "_law_groups" s__law_groups p__law_groups f__law_groups) (d__law_group : Known P w K mg base 3 "_law_group" s__law_group p__law_group f__law_group) (d__law_bent_group : Known P w K mg base 4 "_law_bent_group" s__law_bent_group p__law_bent_group f__law_bent_group) (d__law_is_group : Known P w K mg base 2 "_law_is_group" s__law_is_group p__law_is_group f__law_is_group) (d_is_group : Known P w K mg base 2 "is_group" s_is_group p_is_group f_is_group) (d_groups : Known P w K mg base 2 "groups" s_groups p_groups f_groups) (d_parts : Known P w K mg base 1 "parts" s_parts p_parts f_parts) (d__law_parts : Known P w K mg base 1 "_law_parts" s__law_parts p__law_parts f__law_parts) {f : Addr} {fd : FuncData} (Fu : Fun K "law" "law" s_law f fd) : FnG P w K mg base 5 f fd p_law f_law :=
  fn_sound Fu c_law fun cdv A outer s H E c => (sss_cons (ss_set 1 c.nd (se_callD c d__law_deck (by decide) 1 rfl (sa_cons (se_var 0) sa_nil)))
  (sss_cons (ss_for c (si_range2 m_range (sa_cons se_int (sa_cons se_int sa_nil))) (sg_name 2 c.nd)
  (sss_cons (ss_set 3 c.nd (se_callD c d__law_groups (by decide) 1 rfl (sa_cons (se_var 2) sa_nil)))
  (sss_cons (ss_if (st_cmp (op_neA c.hr.units) od_ne (se_callB (call_repr c) cd_repr m_repr boot_repr (sa_cons (se_lst (sa_cons (se_callD c d_groups (by decide) 1 rfl (sa_cons (se_var 2) sa_nil)) (sa_cons (se_callDK0 (ks := ["holders"]) c d_groups (by decide) 1 1 [0] (fun _ _ _ _ _ _ us ws h1 h2 => match us, h1, ws, h2 with | [], _, [_], _ => rfl) rfl rfl (sk_cons (se_var 2) sk_nil)) sa_nil))) sa_nil)) (se_callB (call_repr c) cd_repr m_repr boot_repr (sa_cons (se_mul (se_lst (sa_cons (se_callTy call_tuple_of cd_tuple m_tuple PyProof.Rows.boot_tuple (sa_cons (se_var 3) sa_nil)) sa_nil)) se_int) sa_nil)))
  (sss_cons (ss_ret se_bl)
  sss_nil)
  sss_nil)
  (sss_cons (ss_set 4 c.nd (se_callD c d__law_group (by decide) 2 rfl (sa_cons (se_var 1) (sa_cons (se_var 2) sa_nil))))
  (sss_cons (ss_if (st_cmp (op_neA c.hr.units) od_ne (se_callB (call_repr c) cd_repr m_repr boot_repr (sa_cons (se_lst (sa_cons (se_callD c d_parts (by decide) 1 rfl (sa_cons (se_var 4) sa_nil)) (sa_cons (se_callDK0 (ks := ["group"]) c d_parts (by decide) 1 1 [0] (fun _ _ _ _ _ _ us ws h1 h2 => match us, h1, ws, h2 with | [], _, [_], _ => rfl) rfl rfl (sk_cons (se_var 4) sk_nil)) (sa_cons (se_callD c d_parts (by decide) 1 rfl (sa_cons (se_tup sa_nil) sa_nil)) sa_nil)))) sa_nil)) (se_callB (call_repr c) cd_repr m_repr boot_repr (sa_cons (se_add (se_mul (se_lst (sa_cons (se_callTy call_tuple_of cd_tuple m_tuple PyProof.Rows.boot_tuple (sa_cons (se_callD c d__law_parts (by decide) 1 rfl (sa_cons (se_var 4) sa_nil)) sa_nil)) sa_nil)) se_int) (se_lst (sa_cons (se_tup (sa_cons (se_tup sa_nil) sa_nil)) sa_nil))) sa_nil)))
  (sss_cons (ss_ret se_bl)
  sss_nil)
  sss_nil)
  (sss_cons (ss_set 5 c.nd (se_lst (sa_cons (se_var 4) (sa_cons (se_ix (se_var 3) (se_neg se_int)) (sa_cons (se_add (se_ix (se_var 3) (se_neg se_int)) (se_tup (sa_cons (se_var 2) sa_nil))) (sa_cons (se_tup (sa_cons (se_var 2) sa_nil)) (sa_cons (se_tup (sa_cons (se_neg se_int) sa_nil)) (sa_cons (se_tup sa_nil) (sa_cons (se_tup (sa_cons se_int (sa_cons se_int sa_nil))) (sa_cons (se_lst (sa_cons se_int sa_nil)) (sa_cons se_dict0 (sa_cons (se_dict1 (k := .inl 0) pe_int se_int) (sa_cons se_str sa_nil)))))))))))))
  (sss_cons (ss_for c (si_any (se_add (se_var 5) (se_comp c (si_range1 m_range (sa_cons se_int sa_nil)) (blkOk_by (N := n_law) (sc := defScope s_law) (own := [("_law_turn", 10)]) (by decide +kernel)) (fun _ _ _ _ _ => pg_name (i := 10) c.nd rfl (Or.inl rfl)) (fun _ _ _ _ _ => pts_nilM) (fun s1 H1 C1 cl1 fp1 => (se_callD (Ctx.blk c _ s1 H1 C1 cl1 fp1) d__law_bent_group (by decide) 2 rfl (sa_cons (se_var 1) (sa_cons (se_var 4) sa_nil))))))) (sg_name 6 c.nd)
  (sss_cons (ss_par 7 8 c (sa_cons (se_callB (call_repr c) cd_repr m_repr boot_repr (sa_cons (se_var 6) sa_nil)) (sa_cons (se_callD c d__law_is_group (by decide) 2 rfl (sa_cons (se_var 2) (sa_cons (se_var 6) sa_nil))) sa_nil)))
  (sss_cons (ss_set 9 c.nd (se_lst (sa_cons (se_callD c d_is_group (by decide) 2 rfl (sa_cons (se_var 2) (sa_cons (se_var 6) sa_nil))) (sa_cons (se_callDK0 (ks := ["value", "holders"]) c d_is_group (by decide) 2 2 [1, 0] (fun _ _ _ _ _ _ us ws h1 h2 => match us, h1, ws, h2 with | [], _, [_, _], _ => rfl) rfl rfl (sk_cons (se_var 6) (sk_cons (se_var 2) sk_nil))) sa_nil))))
  (sss_cons (ss_if (st_w (sw_or (st_cmp (op_neA c.hr.units) od_ne (se_callB (call_repr c) cd_repr m_repr boot_repr (sa_cons (se_var 9) sa_nil)) (se_callB (call_repr c) cd_repr m_repr boot_repr (sa_cons (se_lst (sa_cons (se_var 8) (sa_cons (se_var 8) sa_nil))) sa_nil))) (sw_or1 (st_cmp (op_neA c.hr.units) od_ne (se_callB (call_repr c) cd_repr m_repr boot_repr (sa_cons (se_var 6) sa_nil)) (se_var 7)))))
  (sss_cons (ss_ret se_bl)
  sss_nil)
  sss_nil)
  sss_nil))))
  sss_nil)))))))
  (sss_cons (ss_ret se_bl)
  sss_nil)))

end K01

namespace K01
open PySem PySem.Spec PyProof.Rows L2 RL

/-! ### is_whole, is_group -/
def isWholeB (lo hi : Int) : D → Bool
  | .int i => decide (lo ≤ i) && decide (i ≤ hi)
  | _ => false
theorem whole_goal {S : Store} {v : D} {lo hi : Int} {P : D → Store → Prop} (hk : ∃ k, kindD S v = some k) (h : P (.bl (isWholeB lo hi v)) S) :
    Ok (eAndV (eIsi "int" (eVar 0)) (eAndV (eNotV (eIsi "bool" (eVar 0))) (eChain oLe oLe (eVar 1) (eVar 0) (eVar 2))) [some v, some (D.int lo), some (D.int hi)] S) P := by
  obtain ⟨k, hk⟩ := hk
  simp only [Ok_ok, Ok_bind, Ok_tOf, Ok_tNot, Ok_tAnd, Ok_tOr, Ok_eIf, Ok_andV, Ok_orV, Ok_notV, Ok_chain, Ok_addI, Ok_subI, Ok_mulI, Ok_modI, Ok_divI, Ok_powI, Ok_ltI, Ok_leI, Ok_gtI, Ok_geI, Ok_addT, Ok_intI, Ok_intB, Ok_boolI, Ok_abs, Ok_lenT, Ok_tupleT, Ok_listT, Ok_ixT, Ok_slT, Ok_revT, Ok_dict0, Ok_dict1C, Ok_iAny, Ok_rngM1, Ok_rngM2, OkS_asgSub, Ok_neS, Ok_eqS, OkS_seq, OkS_pass, OkS_ret, OkS_retN, OkS_drop, OkS_set, OkS_par, OkS_if, Ok_nil, Ok_cons, Ok_bin, Ok_eC, Ok_call, Ok_fn1, Ok_fnK, Ok_tup, Ok_lst, Ok_isi, Ok_sl, Ok_pNone, Ok_pSome, Ok_neg, Ok_rev, Ok_rg1, OkS_for, Ok_comp, Ok_var, Ok_body, List.map_cons, List.map_nil, List.replicate_succ, List.replicate_zero, List.length_cons, List.length_nil, Nat.reduceSub, Nat.reduceAdd, List.cons_append, List.nil_append, List.getElem?_cons_succ, List.getElem?_cons_zero, List.set_cons_succ, List.set_cons_zero, Option.some.injEq, exists_eq_left', exists_eq_left, D.bl.injEq, D.int.injEq, List.cons.injEq, true_and, and_true, pickL, wipeE, List.map, Ok_if, ex2]
  refine ⟨k, hk, ?_⟩
  cases v with
  | int i =>
    cases hk
    rw [if_pos (by decide)]
    refine ⟨_, rfl, ?_⟩
    rw [if_pos (by decide)]
    simp only [Ok_ok, Ok_bind, Ok_tOf, Ok_tNot, Ok_tAnd, Ok_tOr, Ok_eIf, Ok_andV, Ok_orV, Ok_notV, Ok_chain, Ok_addI, Ok_subI, Ok_mulI, Ok_modI, Ok_divI, Ok_powI, Ok_ltI, Ok_leI, Ok_gtI, Ok_geI, Ok_addT, Ok_intI, Ok_intB, Ok_boolI, Ok_abs, Ok_lenT, Ok_tupleT, Ok_listT, Ok_ixT, Ok_slT, Ok_revT, Ok_dict0, Ok_dict1C, Ok_iAny, Ok_rngM1, Ok_rngM2, OkS_asgSub, Ok_neS, Ok_eqS, OkS_seq, OkS_pass, OkS_ret, OkS_retN, OkS_drop, OkS_set, OkS_par, OkS_if, Ok_nil, Ok_cons, Ok_bin, Ok_eC, Ok_call, Ok_fn1, Ok_fnK, Ok_tup, Ok_lst, Ok_isi, Ok_sl, Ok_pNone, Ok_pSome, Ok_neg, Ok_rev, Ok_rg1, OkS_for, Ok_comp, Ok_var, Ok_body, List.map_cons, List.map_nil, List.replicate_succ, List.replicate_zero, List.length_cons, List.length_nil, Nat.reduceSub, Nat.reduceAdd, List.cons_append, List.nil_append, List.getElem?_cons_succ, List.getElem?_cons_zero, List.set_cons_succ, List.set_cons_zero, Option.some.injEq, exists_eq_left', exists_eq_left, D.bl.injEq, D.int.injEq, List.cons.injEq, true_and, and_true, pickL, wipeE, List.map, Ok_if, ex2]
    by_cases h1 : lo ≤ i
    · simp only [h1, decide_true, if_true]
      have e : isWholeB lo hi (.int i) = decide (i ≤ hi) := by simp [isWholeB, h1]
      rw [e] at h
      exact h
    · simp only [h1, decide_false, Bool.false_eq_true, if_false]
      have e : isWholeB lo hi (.int i) = false := by simp [isWholeB, h1]
      rw [e] at h
      exact h
  | bl b =>
    cases hk
    rw [if_pos (by decide)]
    refine ⟨_, rfl, ?_⟩
    rw [if_neg (by decide)]
    exact h
  | non => cases hk; rw [if_neg (by decide)]; exact h
  | str b => cases hk; rw [if_neg (by decide)]; exact h
  | tup b => cases hk; rw [if_neg (by decide)]; exact h
  | ptr n =>
    have hz : isiB k "int" = false := by
      have hk : kindC S[n]? = some k := hk
      unfold kindC at hk
      split at hk <;> cases hk <;> decide
    rw [hz, if_neg (by decide)]
    exact h
theorem ok_is_whole {S : Store} {v : D} {lo hi : Int} {P : D → Store → Prop} (hk : ∃ k, kindD S v = some k) (h : P (.bl (isWholeB lo hi v)) S) : Ok (f_is_whole [v, .int lo, .int hi] S) P := by
  unfold f_is_whole b_is_whole
  simp only [Ok_body, OkS_seq, OkS_ret]
  exact whole_goal hk h
theorem ok_law_is_whole {S : Store} {v : D} {lo hi : Int} {P : D → Store → Prop} (hk : ∃ k, kindD S v = some k) (h : P (.bl (isWholeB lo hi v)) S) : Ok (f__law_is_whole [v, .int lo, .int hi] S) P := by
  unfold f__law_is_whole b__law_is_whole
  simp only [Ok_body, OkS_seq, OkS_ret]
  exact whole_goal hk h

def asc (h : Int) : Int → List D → Bool
  | _, [] => true
  | l, x :: xs => match x with
    | .int i => if l ≤ i ∧ i ≤ h - 1 then asc h (i + 1) xs else false
    | _ => false
def isGroupB (h : Int) : D → Bool
  | .tup ds => asc h 0 ds
  | _ => false
/-- a value of a kind that is known, whatever the store -/
def Kn (S : Store) (v : D) : Prop := (∃ k, kindD S v = some k) ∧ ∀ ds, v = .tup ds → ∀ x ∈ ds, ∀ S', ∃ k, kindD S' x = some k
theorem ok_is_group {S : Store} {v : D} {h : Int} {P : D → Store → Prop} (hk : Kn S v) (hP : P (.bl (isGroupB h v)) S) : Ok (f_is_group [.int h, v] S) P := by
  obtain ⟨⟨k, hk⟩, hx⟩ := hk
  unfold f_is_group b_is_group
  simp only [Ok_ok, Ok_bind, Ok_tOf, Ok_tNot, Ok_tAnd, Ok_tOr, Ok_eIf, Ok_andV, Ok_orV, Ok_notV, Ok_chain, Ok_addI, Ok_subI, Ok_mulI, Ok_modI, Ok_divI, Ok_powI, Ok_ltI, Ok_leI, Ok_gtI, Ok_geI, Ok_addT, Ok_intI, Ok_intB, Ok_boolI, Ok_abs, Ok_lenT, Ok_tupleT, Ok_listT, Ok_ixT, Ok_slT, Ok_revT, Ok_dict0, Ok_dict1C, Ok_iAny, Ok_rngM1, Ok_rngM2, OkS_asgSub, Ok_neS, Ok_eqS, OkS_seq, OkS_pass, OkS_ret, OkS_retN, OkS_drop, OkS_set, OkS_par, OkS_if, Ok_nil, Ok_cons, Ok_bin, Ok_eC, Ok_call, Ok_fn1, Ok_fnK, Ok_tup, Ok_lst, Ok_isi, Ok_sl, Ok_pNone, Ok_pSome, Ok_neg, Ok_rev, Ok_rg1, OkS_for, Ok_comp, Ok_var, Ok_body, List.map_cons, List.map_nil, List.replicate_succ, List.replicate_zero, List.length_cons, List.length_nil, Nat.reduceSub, Nat.reduceAdd, List.cons_append, List.nil_append, List.getElem?_cons_succ, List.getElem?_cons_zero, List.set_cons_succ, List.set_cons_zero, Option.some.injEq, exists_eq_left', exists_eq_left, D.bl.injEq, D.int.injEq, List.cons.injEq, true_and, and_true, pickL, wipeE, List.map, Ok_if, ex2]
  refine ⟨k, hk, ?_⟩
  cases v with
  | tup ds =>
    cases hk
    rw [if_neg (by decide)]
    refine ⟨_, rfl, trivial, ?_⟩
    refine forM_inv (fun xs ρ S' => S' = S ∧ (∃ l o, ρ = [some (.int h), some (.tup ds), some (.int l), o] ∧ isGroupB h (.tup ds) = asc h l xs) ∧ ∀ x ∈ xs, ∀ S', ∃ k, kindD S' x = some k) ?_ ?_ ds _ _ ⟨rfl, ⟨0, none, rfl, rfl⟩, hx ds rfl⟩
    · rintro x xs ρ S' ⟨rfl, ⟨l, o, rfl, e⟩, hxs⟩
      simp only [Ok_ok, Ok_bind, Ok_tOf, Ok_tNot, Ok_tAnd, Ok_tOr, Ok_eIf, Ok_andV, Ok_orV, Ok_notV, Ok_chain, Ok_addI, Ok_subI, Ok_mulI, Ok_modI, Ok_divI, Ok_powI, Ok_ltI, Ok_leI, Ok_gtI, Ok_geI, Ok_addT, Ok_intI, Ok_intB, Ok_boolI, Ok_abs, Ok_lenT, Ok_tupleT, Ok_listT, Ok_ixT, Ok_slT, Ok_revT, Ok_dict0, Ok_dict1C, Ok_iAny, Ok_rngM1, Ok_rngM2, OkS_asgSub, Ok_neS, Ok_eqS, OkS_seq, OkS_pass, OkS_ret, OkS_retN, OkS_drop, OkS_set, OkS_par, OkS_if, Ok_nil, Ok_cons, Ok_bin, Ok_eC, Ok_call, Ok_fn1, Ok_fnK, Ok_tup, Ok_lst, Ok_isi, Ok_sl, Ok_pNone, Ok_pSome, Ok_neg, Ok_rev, Ok_rg1, OkS_for, Ok_comp, Ok_var, Ok_body, List.map_cons, List.map_nil, List.replicate_succ, List.replicate_zero, List.length_cons, List.length_nil, Nat.reduceSub, Nat.reduceAdd, List.cons_append, List.nil_append, List.getElem?_cons_succ, List.getElem?_cons_zero, List.set_cons_succ, List.set_cons_zero, Option.some.injEq, exists_eq_left', exists_eq_left, D.bl.injEq, D.int.injEq, List.cons.injEq, true_and, and_true, pickL, wipeE, List.map, Ok_if, ex2]
      refine ok_is_whole (hxs x (List.mem_cons_self) S') ?_
      refine ⟨_, rfl, ?_⟩
      unfold asc at e
      cases x with
      | int i =>
        by_cases hc : l ≤ i ∧ i ≤ h - 1
        · have ew : isWholeB l (h - 1) (.int i) = true := by simp [isWholeB, hc.1, hc.2]
          simp only [hc, and_self, if_true] at e
          rw [ew, if_neg (by decide)]
          exact ⟨rfl, ⟨i + 1, some (.int i), ⟨rfl, rfl⟩, e⟩, fun y hy => hxs y (List.mem_cons_of_mem _ hy)⟩
        · have ew : isWholeB l (h - 1) (.int i) = false := by
            simp only [isWholeB, Bool.and_eq_false_iff, decide_eq_false_iff_not]
            omega
          simp only [hc, if_false] at e
          rw [ew, if_pos (by decide)]
          rw [e] at hP; exact hP
      | _ => rw [show isWholeB l (h - 1) _ = false from rfl, if_pos (by decide)]; rw [e] at hP; exact hP
    · rintro ρ S' ⟨rfl, ⟨l, o, rfl, e⟩, _⟩
      rw [e] at hP
      exact hP
  | ptr n =>
    have hz : isiB k "tuple" = false := by
      have hk : kindC S[n]? = some k := hk
      unfold kindC at hk
      split at hk <;> cases hk <;> decide
    rw [hz, if_pos (by decide)]
    exact hP
  | _ => cases hk; rw [if_pos (by decide)]; exact hP

/-! ### the law's own look -/
def inc : List Int → Bool
  | a :: b :: r => decide (a < b) && inc (b :: r)
  | _ => true
theorem inc_iff : ∀ ns : List Int, inc ns = true ↔ ∀ i, i + 1 < ns.length → ns.getD i 0 < ns.getD (i + 1) 0
  | [] => by simp [inc]
  | [a] => by simp [inc]
  | a :: b :: r => by
    have ih := inc_iff (b :: r)
    unfold inc
    rw [Bool.and_eq_true, ih, decide_eq_true_eq]
    constructor
    · rintro ⟨h1, h2⟩ i hi
      cases i with
      | zero => exact h1
      | succ i => exact h2 i (by simpa using hi)
    · intro h
      refine ⟨h 0 (by simp), fun i hi => h (i + 1) (by simpa using hi)⟩
theorem asc_ints (h : Int) : ∀ (ns : List Int) (l : Int), (∀ n ∈ ns, n ≤ h - 1) → asc h l (ns.map D.int) = (inc ns && decide (∀ n, ns.head? = some n → l ≤ n))
  | [], l, _ => by simp [asc, inc]
  | [a], l, hh => by
    have := hh a (by simp)
    simp [asc, inc, this]
  | a :: b :: r, l, hh => by
    have ih := asc_ints h (b :: r) (a + 1) fun n hn => hh n (List.mem_cons_of_mem _ hn)
    have h1 := hh a (by simp)
    rw [List.map_cons]
    unfold asc
    simp only [h1, and_true]
    rw [ih, show inc (a :: b :: r) = (decide (a < b) && inc (b :: r)) from rfl]
    by_cases h2 : l ≤ a
    · simp only [h2, if_true, List.head?_cons, Option.some.injEq, forall_eq']
      by_cases h3 : a < b
      · have : a + 1 ≤ b := by omega
        simp [h3, this]
      · have : ¬ a + 1 ≤ b := by omega
        simp [h3, this]
    · simp only [h2, if_false, List.head?_cons, Option.some.injEq, forall_eq']
      simp
theorem asc_whole (h : Int) : ∀ (ds : List D) (l : Int), 0 ≤ l → asc h l ds = true → ∀ x ∈ ds, isWholeB 0 (h - 1) x = true
  | [], _, _, _, _, hx => by cases hx
  | d :: ds, l, hl, ha, x, hx => by
    unfold asc at ha
    cases d with
    | int i =>
      by_cases hc : l ≤ i ∧ i ≤ h - 1
      · simp only [hc, and_self, if_true] at ha
        rcases List.mem_cons.mp hx with rfl | hx
        · simp only [isWholeB, Bool.and_eq_true, decide_eq_true_eq]; omega
        · exact asc_whole h ds (i + 1) (by omega) ha x hx
      · simp only [hc, if_false] at ha
        cases ha
    | _ => cases ha
theorem wholes_ints {lo hi : Int} : ∀ ds : List D, (∀ x ∈ ds, isWholeB lo hi x = true) → ∃ ns : List Int, ds = ns.map D.int ∧ ∀ n ∈ ns, lo ≤ n ∧ n ≤ hi
  | [], _ => ⟨[], rfl, fun _ h => by cases h⟩
  | d :: ds, h => by
    obtain ⟨ns, rfl, hn⟩ := wholes_ints ds fun x hx => h x (List.mem_cons_of_mem _ hx)
    have hd := h d List.mem_cons_self
    cases d with
    | int i =>
      simp only [isWholeB, Bool.and_eq_true, decide_eq_true_eq] at hd
      refine ⟨i :: ns, rfl, fun n hm => ?_⟩
      rcases List.mem_cons.mp hm with rfl | hm
      · exact hd
      · exact hn n hm
    | _ => cases hd
theorem ones_of {l : List D} : ∃ ns : List Int, l.map (fun _ => D.int 1) = ns.map D.int ∧ (ns = [] ↔ l = []) := ⟨l.map fun _ => 1, by rw [List.map_map]; rfl, by simp⟩
theorem ok_law_is_group {S : Store} {v : D} {h : Int} {P : D → Store → Prop} (hk : Kn S v) (hz : ∀ ds, v = .tup ds → ds.length ≤ 50000) (hP : ∀ S', Gr0 S S' → P (.bl (isGroupB h v)) S') : Ok (f__law_is_group [.int h, v] S) P := by
  obtain ⟨⟨k, hk⟩, hx⟩ := hk
  unfold f__law_is_group b__law_is_group
  simp only [Ok_ok, Ok_bind, Ok_tOf, Ok_tNot, Ok_tAnd, Ok_tOr, Ok_eIf, Ok_andV, Ok_orV, Ok_notV, Ok_chain, Ok_addI, Ok_subI, Ok_mulI, Ok_modI, Ok_divI, Ok_powI, Ok_ltI, Ok_leI, Ok_gtI, Ok_geI, Ok_addT, Ok_intI, Ok_intB, Ok_boolI, Ok_abs, Ok_lenT, Ok_tupleT, Ok_listT, Ok_ixT, Ok_slT, Ok_revT, Ok_dict0, Ok_dict1C, Ok_iAny, Ok_rngM1, Ok_rngM2, OkS_asgSub, Ok_neS, Ok_eqS, OkS_seq, OkS_pass, OkS_ret, OkS_retN, OkS_drop, OkS_set, OkS_par, OkS_if, Ok_nil, Ok_cons, Ok_bin, Ok_eC, Ok_call, Ok_fn1, Ok_fnK, Ok_tup, Ok_lst, Ok_isi, Ok_sl, Ok_pNone, Ok_pSome, Ok_neg, Ok_rev, Ok_rg1, OkS_for, Ok_comp, Ok_var, Ok_body, List.map_cons, List.map_nil, List.replicate_succ, List.replicate_zero, List.length_cons, List.length_nil, Nat.reduceSub, Nat.reduceAdd, List.cons_append, List.nil_append, List.getElem?_cons_succ, List.getElem?_cons_zero, List.set_cons_succ, List.set_cons_zero, Option.some.injEq, exists_eq_left', exists_eq_left, D.bl.injEq, D.int.injEq, List.cons.injEq, true_and, and_true, pickL, wipeE, List.map, Ok_if, ex2]
  refine ⟨k, hk, ?_⟩
  cases v with
  | tup ds =>
    have hds := hz ds rfl
    have big : (50000 : Nat) ≤ sizeLine := by decide
    cases hk
    rw [if_neg (by decide)]
    refine ⟨_, rfl, trivial, ?_⟩
    refine (compT_fm (S0 := S) (fun x => !isWholeB 0 (h - 1) x) (fun _ => .int 1) (fun _ => trivial) ds [] (by simp; omega) (fun x hm acc => ?_) (fun x hm _ acc => ?_)).mono ?_
    · simp only [Ok_ok, Ok_bind, Ok_tOf, Ok_tNot, Ok_tAnd, Ok_tOr, Ok_eIf, Ok_andV, Ok_orV, Ok_notV, Ok_chain, Ok_addI, Ok_subI, Ok_mulI, Ok_modI, Ok_divI, Ok_powI, Ok_ltI, Ok_leI, Ok_gtI, Ok_geI, Ok_addT, Ok_intI, Ok_intB, Ok_boolI, Ok_abs, Ok_lenT, Ok_tupleT, Ok_listT, Ok_ixT, Ok_slT, Ok_revT, Ok_dict0, Ok_dict1C, Ok_iAny, Ok_rngM1, Ok_rngM2, OkS_asgSub, Ok_neS, Ok_eqS, OkS_seq, OkS_pass, OkS_ret, OkS_retN, OkS_drop, OkS_set, OkS_par, OkS_if, Ok_nil, Ok_cons, Ok_bin, Ok_eC, Ok_call, Ok_fn1, Ok_fnK, Ok_tup, Ok_lst, Ok_isi, Ok_sl, Ok_pNone, Ok_pSome, Ok_neg, Ok_rev, Ok_rg1, OkS_for, Ok_comp, Ok_var, Ok_body, List.map_cons, List.map_nil, List.replicate_succ, List.replicate_zero, List.length_cons, List.length_nil, Nat.reduceSub, Nat.reduceAdd, List.cons_append, List.nil_append, List.getElem?_cons_succ, List.getElem?_cons_zero, List.set_cons_succ, List.set_cons_zero, Option.some.injEq, exists_eq_left', exists_eq_left, D.bl.injEq, D.int.injEq, List.cons.injEq, true_and, and_true, pickL, wipeE, List.map, Ok_if, ex2]
      exact ok_law_is_whole (hx ds rfl x hm _) ⟨_, rfl, rfl, rfl⟩
    · simp only [Ok_ok, Ok_bind, Ok_tOf, Ok_tNot, Ok_tAnd, Ok_tOr, Ok_eIf, Ok_andV, Ok_orV, Ok_notV, Ok_chain, Ok_addI, Ok_subI, Ok_mulI, Ok_modI, Ok_divI, Ok_powI, Ok_ltI, Ok_leI, Ok_gtI, Ok_geI, Ok_addT, Ok_intI, Ok_intB, Ok_boolI, Ok_abs, Ok_lenT, Ok_tupleT, Ok_listT, Ok_ixT, Ok_slT, Ok_revT, Ok_dict0, Ok_dict1C, Ok_iAny, Ok_rngM1, Ok_rngM2, OkS_asgSub, Ok_neS, Ok_eqS, OkS_seq, OkS_pass, OkS_ret, OkS_retN, OkS_drop, OkS_set, OkS_par, OkS_if, Ok_nil, Ok_cons, Ok_bin, Ok_eC, Ok_call, Ok_fn1, Ok_fnK, Ok_tup, Ok_lst, Ok_isi, Ok_sl, Ok_pNone, Ok_pSome, Ok_neg, Ok_rev, Ok_rg1, OkS_for, Ok_comp, Ok_var, Ok_body, List.map_cons, List.map_nil, List.replicate_succ, List.replicate_zero, List.length_cons, List.length_nil, Nat.reduceSub, Nat.reduceAdd, List.cons_append, List.nil_append, List.getElem?_cons_succ, List.getElem?_cons_zero, List.set_cons_succ, List.set_cons_zero, Option.some.injEq, exists_eq_left', exists_eq_left, D.bl.injEq, D.int.injEq, List.cons.injEq, true_and, and_true, pickL, wipeE, List.map, Ok_if, ex2]
    rintro _ S1 rfl
    rw [List.nil_append]
    obtain ⟨ns, e1, e2⟩ := ones_of (l := ds.filter fun x => !isWholeB 0 (h - 1) x)
    rw [e1]
    refine ⟨Nat.zero_le _, ?_⟩
    have g1 : Gr0 S ((S ++ [Cell.lst (ns.map D.int)]) ++ [.lst []]) := (Gr.app _).trans (Gr.app _)
    refine Ok_neD (d := .list (ns.map PyData.int)) (e := .list []) (deep_intsL 38 ns ?_) (deep_intsL 38 [] (get_last _ _)) (shaped_intsL ns) (shaped_intsL []) ?_
    · rw [List.getElem?_append_left (by simp)]; exact get_last _ _
    refine ⟨_, rfl, ?_⟩
    have ee : PyData.eqv (.list (ns.map PyData.int)) (.list []) = decide (ns = []) := eqv_intsL ns []
    rw [ee]
    by_cases hn : ns = []
    · have hf := e2.mp hn
      have allW : ∀ x ∈ ds, isWholeB 0 (h - 1) x = true := by
        intro x hm
        have := List.filter_eq_nil_iff.mp hf x hm
        simpa using this
      obtain ⟨ms, rfl, hms⟩ := wholes_ints ds allW
      subst hn
      rw [if_neg (by simp)]
      rw [List.length_map] at hds
      simp only [Ok_ok, Ok_bind, Ok_tOf, Ok_tNot, Ok_tAnd, Ok_tOr, Ok_eIf, Ok_andV, Ok_orV, Ok_notV, Ok_chain, Ok_addI, Ok_subI, Ok_mulI, Ok_modI, Ok_divI, Ok_powI, Ok_ltI, Ok_leI, Ok_gtI, Ok_geI, Ok_addT, Ok_intI, Ok_intB, Ok_boolI, Ok_abs, Ok_lenT, Ok_tupleT, Ok_listT, Ok_ixT, Ok_slT, Ok_revT, Ok_dict0, Ok_dict1C, Ok_iAny, Ok_rngM1, Ok_rngM2, OkS_asgSub, Ok_neS, Ok_eqS, OkS_seq, OkS_pass, OkS_ret, OkS_retN, OkS_drop, OkS_set, OkS_par, OkS_if, Ok_nil, Ok_cons, Ok_bin, Ok_eC, Ok_call, Ok_fn1, Ok_fnK, Ok_tup, Ok_lst, Ok_isi, Ok_sl, Ok_pNone, Ok_pSome, Ok_neg, Ok_rev, Ok_rg1, OkS_for, Ok_comp, Ok_var, Ok_body, List.map_cons, List.map_nil, List.replicate_succ, List.replicate_zero, List.length_cons, List.length_nil, Nat.reduceSub, Nat.reduceAdd, List.cons_append, List.nil_append, List.getElem?_cons_succ, List.getElem?_cons_zero, List.set_cons_succ, List.set_cons_zero, Option.some.injEq, exists_eq_left', exists_eq_left, D.bl.injEq, D.int.injEq, List.cons.injEq, true_and, and_true, pickL, wipeE, List.map, Ok_if, ex2, List.length_map]
      refine ⟨⟨⟨by omega, by omega⟩, by omega, by omega⟩, ?_⟩
      refine (compT_fm (S0 := S ++ [.lst []] ++ [.lst []]) (fun x => match x with | .int j => decide (ms.getD j.toNat 0 ≤ ms.getD (j - 1).toNat 0) | _ => false) (fun x => x) (fun _ => trivial) _ [] ?_ (fun x hm acc => ?_) (fun x hm _ acc => ?_)).mono ?_
      · unfold rangeD; simp; omega
      · obtain ⟨i, hi, rfl⟩ := mem_range hm
        simp only [Ok_ok, Ok_bind, Ok_tOf, Ok_tNot, Ok_tAnd, Ok_tOr, Ok_eIf, Ok_andV, Ok_orV, Ok_notV, Ok_chain, Ok_addI, Ok_subI, Ok_mulI, Ok_modI, Ok_divI, Ok_powI, Ok_ltI, Ok_leI, Ok_gtI, Ok_geI, Ok_addT, Ok_intI, Ok_intB, Ok_boolI, Ok_abs, Ok_lenT, Ok_tupleT, Ok_listT, Ok_ixT, Ok_slT, Ok_revT, Ok_dict0, Ok_dict1C, Ok_iAny, Ok_rngM1, Ok_rngM2, OkS_asgSub, Ok_neS, Ok_eqS, OkS_seq, OkS_pass, OkS_ret, OkS_retN, OkS_drop, OkS_set, OkS_par, OkS_if, Ok_nil, Ok_cons, Ok_bin, Ok_eC, Ok_call, Ok_fn1, Ok_fnK, Ok_tup, Ok_lst, Ok_isi, Ok_sl, Ok_pNone, Ok_pSome, Ok_neg, Ok_rev, Ok_rg1, OkS_for, Ok_comp, Ok_var, Ok_body, List.map_cons, List.map_nil, List.replicate_succ, List.replicate_zero, List.length_cons, List.length_nil, Nat.reduceSub, Nat.reduceAdd, List.cons_append, List.nil_append, List.getElem?_cons_succ, List.getElem?_cons_zero, List.set_cons_succ, List.set_cons_zero, Option.some.injEq, exists_eq_left', exists_eq_left, D.bl.injEq, D.int.injEq, List.cons.injEq, true_and, and_true, pickL, wipeE, List.map, Ok_if, ex2]
        have i1 : i < ms.length := by omega
        have i2 : i + 1 < ms.length := by omega
        have d1 : atD (ms.map D.int) (1 + (i : Int) - 1) = some (.int (ms.getD i 0)) := by
          rw [show (1 + (i : Int) - 1) = ((i : Nat) : Int) by omega]
          refine atD_nat ?_
          rw [List.getElem?_map, List.getElem?_eq_getElem i1, List.getD_eq_getElem?_getD, List.getElem?_eq_getElem i1]; rfl
        have d2 : atD (ms.map D.int) (1 + (i : Int)) = some (.int (ms.getD (i + 1) 0)) := by
          rw [show (1 + (i : Int)) = ((i + 1 : Nat) : Int) by omega]
          refine atD_nat ?_
          rw [List.getElem?_map, List.getElem?_eq_getElem i2, List.getD_eq_getElem?_getD, List.getElem?_eq_getElem i2]; rfl
        refine ⟨_, d1, _, d2, ?_⟩
        simp only [Ok_ok, Ok_bind, Ok_tOf, Ok_tNot, Ok_tAnd, Ok_tOr, Ok_eIf, Ok_andV, Ok_orV, Ok_notV, Ok_chain, Ok_addI, Ok_subI, Ok_mulI, Ok_modI, Ok_divI, Ok_powI, Ok_ltI, Ok_leI, Ok_gtI, Ok_geI, Ok_addT, Ok_intI, Ok_intB, Ok_boolI, Ok_abs, Ok_lenT, Ok_tupleT, Ok_listT, Ok_ixT, Ok_slT, Ok_revT, Ok_dict0, Ok_dict1C, Ok_iAny, Ok_rngM1, Ok_rngM2, OkS_asgSub, Ok_neS, Ok_eqS, OkS_seq, OkS_pass, OkS_ret, OkS_retN, OkS_drop, OkS_set, OkS_par, OkS_if, Ok_nil, Ok_cons, Ok_bin, Ok_eC, Ok_call, Ok_fn1, Ok_fnK, Ok_tup, Ok_lst, Ok_isi, Ok_sl, Ok_pNone, Ok_pSome, Ok_neg, Ok_rev, Ok_rg1, OkS_for, Ok_comp, Ok_var, Ok_body, List.map_cons, List.map_nil, List.replicate_succ, List.replicate_zero, List.length_cons, List.length_nil, Nat.reduceSub, Nat.reduceAdd, List.cons_append, List.nil_append, List.getElem?_cons_succ, List.getElem?_cons_zero, List.set_cons_succ, List.set_cons_zero, Option.some.injEq, exists_eq_left', exists_eq_left, D.bl.injEq, D.int.injEq, List.cons.injEq, true_and, and_true, pickL, wipeE, List.map, Ok_if, ex2]
        rw [show (1 + (i : Int) - 1).toNat = i by omega, show (1 + (i : Int)).toNat = i + 1 by omega]
      · simp only [Ok_ok, Ok_bind, Ok_tOf, Ok_tNot, Ok_tAnd, Ok_tOr, Ok_eIf, Ok_andV, Ok_orV, Ok_notV, Ok_chain, Ok_addI, Ok_subI, Ok_mulI, Ok_modI, Ok_divI, Ok_powI, Ok_ltI, Ok_leI, Ok_gtI, Ok_geI, Ok_addT, Ok_intI, Ok_intB, Ok_boolI, Ok_abs, Ok_lenT, Ok_tupleT, Ok_listT, Ok_ixT, Ok_slT, Ok_revT, Ok_dict0, Ok_dict1C, Ok_iAny, Ok_rngM1, Ok_rngM2, OkS_asgSub, Ok_neS, Ok_eqS, OkS_seq, OkS_pass, OkS_ret, OkS_retN, OkS_drop, OkS_set, OkS_par, OkS_if, Ok_nil, Ok_cons, Ok_bin, Ok_eC, Ok_call, Ok_fn1, Ok_fnK, Ok_tup, Ok_lst, Ok_isi, Ok_sl, Ok_pNone, Ok_pSome, Ok_neg, Ok_rev, Ok_rg1, OkS_for, Ok_comp, Ok_var, Ok_body, List.map_cons, List.map_nil, List.replicate_succ, List.replicate_zero, List.length_cons, List.length_nil, Nat.reduceSub, Nat.reduceAdd, List.cons_append, List.nil_append, List.getElem?_cons_succ, List.getElem?_cons_zero, List.set_cons_succ, List.set_cons_zero, Option.some.injEq, exists_eq_left', exists_eq_left, D.bl.injEq, D.int.injEq, List.cons.injEq, true_and, and_true, pickL, wipeE, List.map, Ok_if, ex2]
      rintro _ S1 rfl
      rw [List.nil_append, List.map_id']
      obtain ⟨js, ej⟩ : ∃ js : List Int, (rangeD 1 ((ms.length : Int) - 1).toNat).filter (fun x => match x with | .int j => decide (ms.getD j.toNat 0 ≤ ms.getD (j - 1).toNat 0) | _ => false) = js.map D.int := by
        obtain ⟨js, e, _⟩ := wholes_ints (lo := 0) (hi := 1000000) ((rangeD 1 ((ms.length : Int) - 1).toNat).filter (fun x => match x with | .int j => decide (ms.getD j.toNat 0 ≤ ms.getD (j - 1).toNat 0) | _ => false)) fun x hx => by
          obtain ⟨i, hi, rfl⟩ := mem_range (List.mem_filter.mp hx).1
          simp only [isWholeB, Bool.and_eq_true, decide_eq_true_eq]
          omega
        exact ⟨js, e⟩
      rw [ej]
      refine ⟨Nat.zero_le _, ?_⟩
      refine Ok_eqD (d := .list (js.map PyData.int)) (e := .list []) (deep_intsL 38 js ?_) (deep_intsL 38 [] (get_last _ _)) (shaped_intsL js) (shaped_intsL []) ?_
      · rw [List.getElem?_append_left (by simp)]; exact get_last _ _
      have e3 : PyData.eqv (.list (js.map PyData.int)) (.list []) = decide (js = []) := eqv_intsL js []
      have e4 : isGroupB h (.tup (ms.map D.int)) = decide (js = []) := by
        show asc h 0 (ms.map D.int) = _
        rw [asc_ints h ms 0 fun n hn => (hms n hn).2]
        have e5 : decide (∀ n, ms.head? = some n → 0 ≤ n) = true := by
          rw [decide_eq_true_eq]
          intro n hn
          exact (hms n (List.mem_of_mem_head? hn)).1
        rw [e5, Bool.and_true, Bool.eq_iff_iff, decide_eq_true_eq, inc_iff]
        have e6 : js = [] ↔ js.map D.int = [] := by simp
        rw [e6, ← ej, List.filter_eq_nil_iff]
        constructor
        · intro hi x hx
          obtain ⟨i, hl, rfl⟩ := mem_range hx
          have := hi i (by omega)
          simp only [decide_eq_true_eq]
          rw [show (1 + (i : Int) - 1).toNat = i by omega, show (1 + (i : Int)).toNat = i + 1 by omega]
          omega
        · intro hx i hl
          have hm : D.int (1 + (i : Int)) ∈ rangeD 1 ((ms.length : Int) - 1).toNat := by
            unfold rangeD
            exact List.mem_map.mpr ⟨i, List.mem_range.mpr (by omega), rfl⟩
          have := hx _ hm
          simp only [decide_eq_true_eq] at this
          rw [show (1 + (i : Int) - 1).toNat = i by omega, show (1 + (i : Int)).toNat = i + 1 by omega] at this
          omega
      rw [e3, ← e4]
      exact hP _ (((Gr.app _).trans (Gr.app _)).trans ((Gr.app _).trans (Gr.app _)))
    · rw [if_pos (by simp [hn])]
      have : isGroupB h (.tup ds) = false := by
        cases hb : isGroupB h (.tup ds) with
        | false => rfl
        | true =>
          exfalso
          refine hn (e2.mpr (List.filter_eq_nil_iff.mpr fun x hm => ?_))
          rw [asc_whole h ds 0 (Int.le_refl _) hb x hm]; simp
      rw [this] at hP
      exact hP _ g1
  | ptr n =>
    have hz : isiB k "tuple" = false := by
      have hk : kindC S[n]? = some k := hk
      unfold kindC at hk
      split at hk <;> cases hk <;> decide
    rw [hz, if_pos (by decide), if_pos trivial]
    exact hP _ Gr.refl
  | _ => cases hk; rw [if_pos (by decide), if_pos trivial]; exact hP _ Gr.refl

/-! ### parts -/
def tupI (l : List Int) : D := .tup (l.map D.int)
def goG (found : List (List Int)) : List Int → List (List Int)
  | [] => found
  | n :: ns => goG (found ++ found.map (· ++ [n])) ns
def IsSeq (S : Store) (g : D) (ns : List Int) : Prop := g = .tup (ns.map D.int) ∨ ∃ n, g = .ptr n ∧ S[n]? = some (.lst (ns.map D.int))
theorem IsSeq.app {S : Store} {g : D} {ns : List Int} (h : IsSeq S g ns) (c : Cell) : IsSeq (S ++ [c]) g ns := by
  rcases h with h | ⟨n, h, e⟩
  · exact .inl h
  · exact .inr ⟨n, h, (Gr.app (q := fun _ => False) _).get e fun z => z⟩
noncomputable abbrev partsBody : MS := sSeq (sSet 1 (eBin oAdd (eVar 1) (eComp (iAnyM (eVar 1)) (bNm 3) [3] tYesM (eBin oAdd (eVar 3) (eTup (aCons (eVar 2) aNil)))))) sPass
theorem big1000 : (100000 : Nat) ≤ sizeLine := by decide
theorem parts_loop {g : D} {ns : List Int} {S : Store} {m : Nat} {p : Ps} (hg : IsSeq S g ns) (hm : S[m]? = some (.lst [tupI []])) (hn : ns.length ≤ 10)
    (hr : ∀ S' m o o', Gr0 S S' → S'[m]? = some (.lst ((goG [[]] ns).map tupI)) → p.nx [some g, some (.ptr m), o, o'] S') :
    OkS (sFor (iAnyM (eVar 0)) (gNm 2) partsBody [some g, some (.ptr m), none, none] S) p := by
  have bg := big1000
  have loop : ∀ (chk : Store → Prop), (∀ S', Gr0 S S' → chk S') → OkS (forM chk (gNm 2) partsBody (ns.map D.int) [some g, some (.ptr m), none, none] S) p := by
    intro chk hc
    refine forM_inv (fun xs ρ S' => ∃ rs found m o o', xs = rs.map D.int ∧ ρ = [some g, some (.ptr m), o, o'] ∧ S'[m]? = some (.lst (found.map tupI)) ∧ goG found rs = goG [[]] ns ∧ Gr0 S S' ∧
      found.length * 2 ^ rs.length ≤ 2 ^ 10 ∧ rs.length ≤ 10 ∧ ∀ l ∈ found, l.length + rs.length ≤ 10) ?_ ?_ _ _ _ ⟨ns, [[]], m, none, none, rfl, rfl, hm, rfl, Gr.refl, ?_, hn, ?_⟩
    · rintro x xs ρ S' ⟨rs, found, m, o, o', e, rfl, hS, hG, gr, hl, hl2, hl3⟩
      cases rs with
      | nil => cases e
      | cons n rs =>
        rw [List.map_cons] at e
        cases e
        rw [List.length_cons, Nat.pow_succ] at hl
        rw [List.length_cons] at hl2
        have hpos : 1 ≤ 2 ^ rs.length := Nat.one_le_two_pow
        have hfl : found.length ≤ 2 ^ 10 := by
          have : found.length * 1 ≤ found.length * (2 ^ rs.length * 2) := Nat.mul_le_mul_left _ (by omega)
          omega
        have p10 : (2 : Nat) ^ 10 = 1024 := rfl
        simp only [Ok_ok, Ok_bind, Ok_tOf, Ok_tNot, Ok_tAnd, Ok_tOr, Ok_eIf, Ok_andV, Ok_orV, Ok_notV, Ok_chain, Ok_addI, Ok_subI, Ok_mulI, Ok_modI, Ok_divI, Ok_powI, Ok_ltI, Ok_leI, Ok_gtI, Ok_geI, Ok_addT, Ok_intI, Ok_intB, Ok_boolI, Ok_abs, Ok_lenT, Ok_tupleT, Ok_listT, Ok_ixT, Ok_slT, Ok_revT, Ok_dict0, Ok_dict1C, Ok_iAny, Ok_rngM1, Ok_rngM2, OkS_asgSub, Ok_neS, Ok_eqS, OkS_seq, OkS_pass, OkS_ret, OkS_retN, OkS_drop, OkS_set, OkS_par, OkS_if, Ok_nil, Ok_cons, Ok_bin, Ok_eC, Ok_call, Ok_fn1, Ok_fnK, Ok_tup, Ok_lst, Ok_isi, Ok_sl, Ok_pNone, Ok_pSome, Ok_neg, Ok_rev, Ok_rg1, OkS_for, Ok_comp, Ok_var, Ok_body, List.map_cons, List.map_nil, List.replicate_succ, List.replicate_zero, List.length_cons, List.length_nil, Nat.reduceSub, Nat.reduceAdd, List.cons_append, List.nil_append, List.getElem?_cons_succ, List.getElem?_cons_zero, List.set_cons_succ, List.set_cons_zero, Option.some.injEq, exists_eq_left', exists_eq_left, D.bl.injEq, D.int.injEq, List.cons.injEq, true_and, and_true, pickL, wipeE, List.map, Ok_if, ex2]
        refine ⟨_, ⟨_, .inl ⟨hS, rfl⟩⟩, (Gr.app (q := fun _ => False) _).get hS (fun z => z), ?_⟩
        refine (compT_fm (S0 := S') (fun _ => true) (fun d => match d with | .tup l => .tup (l ++ [.int n]) | d => d) (fun acc => (Gr.app (q := fun _ => False) _).get hS (fun z => z)) _ [] (by simp; omega) (fun x hm acc => ?_) (fun x hm _ acc => ?_)).mono ?_
        · exact ⟨rfl, rfl⟩
        · obtain ⟨l, hl4, rfl⟩ := List.mem_map.mp hm
          have := hl3 l hl4
          simp only [Ok_ok, Ok_bind, Ok_tOf, Ok_tNot, Ok_tAnd, Ok_tOr, Ok_eIf, Ok_andV, Ok_orV, Ok_notV, Ok_chain, Ok_addI, Ok_subI, Ok_mulI, Ok_modI, Ok_divI, Ok_powI, Ok_ltI, Ok_leI, Ok_gtI, Ok_geI, Ok_addT, Ok_intI, Ok_intB, Ok_boolI, Ok_abs, Ok_lenT, Ok_tupleT, Ok_listT, Ok_ixT, Ok_slT, Ok_revT, Ok_dict0, Ok_dict1C, Ok_iAny, Ok_rngM1, Ok_rngM2, OkS_asgSub, Ok_neS, Ok_eqS, OkS_seq, OkS_pass, OkS_ret, OkS_retN, OkS_drop, OkS_set, OkS_par, OkS_if, Ok_nil, Ok_cons, Ok_bin, Ok_eC, Ok_call, Ok_fn1, Ok_fnK, Ok_tup, Ok_lst, Ok_isi, Ok_sl, Ok_pNone, Ok_pSome, Ok_neg, Ok_rev, Ok_rg1, OkS_for, Ok_comp, Ok_var, Ok_body, List.map_cons, List.map_nil, List.replicate_succ, List.replicate_zero, List.length_cons, List.length_nil, Nat.reduceSub, Nat.reduceAdd, List.cons_append, List.nil_append, List.getElem?_cons_succ, List.getElem?_cons_zero, List.set_cons_succ, List.set_cons_zero, Option.some.injEq, exists_eq_left', exists_eq_left, D.bl.injEq, D.int.injEq, List.cons.injEq, true_and, and_true, pickL, wipeE, List.map, Ok_if, ex2, tupI, List.length_map]
          rw [List.length_cons] at this
          exact ⟨by omega, by omega⟩
        rintro _ S2 rfl
        have e1 : ([] ++ ((found.map tupI).filter fun _ => true).map fun d => match d with | .tup l => D.tup (l ++ [.int n]) | d => d) = (found.map (· ++ [n])).map tupI := by
          rw [List.nil_append, List.filter_eq_self.mpr (fun _ _ => rfl), List.map_map, List.map_map]
          refine List.map_congr_left fun l _ => ?_
          show D.tup (l.map D.int ++ [.int n]) = .tup ((l ++ [n]).map D.int)
          rw [List.map_append]; rfl
        rw [e1, Ok_addL ((Gr.app (q := fun _ => False) _).get hS (fun z => z)) (get_last _ _)]
        refine ⟨by simp only [List.length_map]; omega, hc _ (gr.trans ((Gr.app _).trans (Gr.app _))), rs, found ++ found.map (· ++ [n]), _, _, _, rfl, ⟨rfl, rfl, rfl⟩, ?_, hG, gr.trans ((Gr.app _).trans (Gr.app _)), ?_, by omega, ?_⟩
        · rw [get_last, List.map_append]
        · rw [List.length_append, List.length_map]
          have : (found.length + found.length) * 2 ^ rs.length = found.length * (2 ^ rs.length * 2) := by
            rw [← Nat.mul_two, Nat.mul_assoc, Nat.mul_comm 2]
          omega
        · intro l hl4
          rcases List.mem_append.mp hl4 with h | h
          · have := hl3 l h
            rw [List.length_cons] at this; omega
          · obtain ⟨l', h', rfl⟩ := List.mem_map.mp h
            have := hl3 l' h'
            rw [List.length_cons] at this
            simp; omega
    · rintro ρ S' ⟨rs, found, m, o, o', e, rfl, hS, hG, gr, _⟩
      cases rs with
      | cons n rs => cases e
      | nil =>
        have hG : found = goG [[]] ns := hG
        rw [hG] at hS
        exact hr S' m o o' gr hS
    · show 1 * 2 ^ ns.length ≤ 2 ^ 10
      rw [Nat.one_mul]
      exact Nat.pow_le_pow_right (by decide) hn
    · intro l hl
      rw [List.mem_singleton.mp hl]
      simp; exact hn
  rcases hg with rfl | ⟨n, rfl, hn2⟩
  · simp only [Ok_ok, Ok_bind, Ok_tOf, Ok_tNot, Ok_tAnd, Ok_tOr, Ok_eIf, Ok_andV, Ok_orV, Ok_notV, Ok_chain, Ok_addI, Ok_subI, Ok_mulI, Ok_modI, Ok_divI, Ok_powI, Ok_ltI, Ok_leI, Ok_gtI, Ok_geI, Ok_addT, Ok_intI, Ok_intB, Ok_boolI, Ok_abs, Ok_lenT, Ok_tupleT, Ok_listT, Ok_ixT, Ok_slT, Ok_revT, Ok_dict0, Ok_dict1C, Ok_iAny, Ok_rngM1, Ok_rngM2, OkS_asgSub, Ok_neS, Ok_eqS, OkS_seq, OkS_pass, OkS_ret, OkS_retN, OkS_drop, OkS_set, OkS_par, OkS_if, Ok_nil, Ok_cons, Ok_bin, Ok_eC, Ok_call, Ok_fn1, Ok_fnK, Ok_tup, Ok_lst, Ok_isi, Ok_sl, Ok_pNone, Ok_pSome, Ok_neg, Ok_rev, Ok_rg1, OkS_for, Ok_comp, Ok_var, Ok_body, List.map_cons, List.map_nil, List.replicate_succ, List.replicate_zero, List.length_cons, List.length_nil, Nat.reduceSub, Nat.reduceAdd, List.cons_append, List.nil_append, List.getElem?_cons_succ, List.getElem?_cons_zero, List.set_cons_succ, List.set_cons_zero, Option.some.injEq, exists_eq_left', exists_eq_left, D.bl.injEq, D.int.injEq, List.cons.injEq, true_and, and_true, pickL, wipeE, List.map, Ok_if, ex2]
    exact loop _ fun _ _ => trivial
  · simp only [Ok_ok, Ok_bind, Ok_tOf, Ok_tNot, Ok_tAnd, Ok_tOr, Ok_eIf, Ok_andV, Ok_orV, Ok_notV, Ok_chain, Ok_addI, Ok_subI, Ok_mulI, Ok_modI, Ok_divI, Ok_powI, Ok_ltI, Ok_leI, Ok_gtI, Ok_geI, Ok_addT, Ok_intI, Ok_intB, Ok_boolI, Ok_abs, Ok_lenT, Ok_tupleT, Ok_listT, Ok_ixT, Ok_slT, Ok_revT, Ok_dict0, Ok_dict1C, Ok_iAny, Ok_rngM1, Ok_rngM2, OkS_asgSub, Ok_neS, Ok_eqS, OkS_seq, OkS_pass, OkS_ret, OkS_retN, OkS_drop, OkS_set, OkS_par, OkS_if, Ok_nil, Ok_cons, Ok_bin, Ok_eC, Ok_call, Ok_fn1, Ok_fnK, Ok_tup, Ok_lst, Ok_isi, Ok_sl, Ok_pNone, Ok_pSome, Ok_neg, Ok_rev, Ok_rg1, OkS_for, Ok_comp, Ok_var, Ok_body, List.map_cons, List.map_nil, List.replicate_succ, List.replicate_zero, List.length_cons, List.length_nil, Nat.reduceSub, Nat.reduceAdd, List.cons_append, List.nil_append, List.getElem?_cons_succ, List.getElem?_cons_zero, List.set_cons_succ, List.set_cons_zero, Option.some.injEq, exists_eq_left', exists_eq_left, D.bl.injEq, D.int.injEq, List.cons.injEq, true_and, and_true, pickL, wipeE, List.map, Ok_if, ex2]
    exact ⟨_, ⟨_, .inl ⟨hn2, rfl⟩⟩, hn2, loop _ fun S' gr => gr.get hn2 fun z => z⟩

theorem deep_tupI (S : Store) (k : Nat) (l : List Int) : deep S (k + 2) (tupI l) = some (.tuple (l.map PyData.int)) := deep_intsT S k l
theorem deep_tupsO (S : Store) (k : Nat) (ls : List (List Int)) : mapO (deep S (k + 2)) (ls.map tupI) = some (ls.map fun l => .tuple (l.map PyData.int)) := mapO_map fun l _ => deep_tupI S k l
theorem alike_ints : ∀ a b : List Int, PySem.W.alikeAll (a.map PyData.int) (b.map PyData.int) = true
  | [], _ => rfl
  | _ :: _, [] => rfl
  | x :: a, y :: b => by
    rw [List.map_cons, List.map_cons]
    unfold PySem.W.alikeAll
    rw [alike_ints a b]
    rfl
theorem okSort_tups (ls : List (List Int)) : okSort (ls.map fun l => .tuple (l.map PyData.int)) = true := by
  unfold okSort
  rw [Bool.and_eq_true]
  constructor
  · rw [List.all_eq_true]
    intro p hp
    obtain ⟨a, _, rfl⟩ := List.mem_map.mp hp
    rw [List.all_eq_true]
    intro q hq
    obtain ⟨b, _, rfl⟩ := List.mem_map.mp hq
    unfold PySem.W.alike
    exact alike_ints a b
  · rw [List.all_eq_true]
    intro p hp
    obtain ⟨a, _, rfl⟩ := List.mem_map.mp hp
    simp only [PyData.depth, depth_ints, PyData.canLay0, canLay_ints]
    decide
def leI (a b : List Int) : Bool := leD [] (tupI a) (tupI b)
def sortI (ls : List (List Int)) : List (List Int) := ls.mergeSort leI
theorem sort_tups (S : Store) (ls : List (List Int)) : (ls.map tupI).mergeSort (leD S) = (sortI ls).map tupI := by
  unfold sortI
  refine (List.map_mergeSort fun a _ b _ => ?_).symm
  have d : ∀ (S : Store) (l : List Int), shownD S (tupI l) = .tuple (l.map PyData.int) := fun S l => by
    unfold shownD
    rw [show deep S deepLine (tupI l) = _ from deep_tupI S 38 l]
    rfl
  unfold leI leD W.sortLe
  simp only [d]
theorem Ok_sortT {n : Nat} {S : Store} {ls : List (List Int)} {P : D → Store → Prop} (h : S[n]? = some (.lst (ls.map tupI))) (hP : P (.ptr S.length) (S ++ [.lst ((sortI ls).map tupI)])) : Ok (fSorted [.ptr n] S) P := by
  unfold fSorted
  simp only [h]
  unfold sortD
  have e : mapO (deep S deepLine) (ls.map tupI) = some (ls.map fun l => .tuple (l.map PyData.int)) := deep_tupsO S 38 ls
  rw [e]
  simp only [okSort_tups, if_true]
  rw [sort_tups]
  exact hP
/-- all parts, ascending -/
def partsI (ns : List Int) : List (List Int) := sortI (goG [[]] ns)
theorem ok_parts {g : D} {ns : List Int} {S : Store} {P : D → Store → Prop} (hg : IsSeq S g ns) (hn : ns.length ≤ 10) (hP : ∀ S', Gr0 S S' → P (.tup ((partsI ns).map tupI)) S') : Ok (f_parts [g] S) P := by
  unfold f_parts b_parts
  simp only [Ok_ok, Ok_bind, Ok_tOf, Ok_tNot, Ok_tAnd, Ok_tOr, Ok_eIf, Ok_andV, Ok_orV, Ok_notV, Ok_chain, Ok_addI, Ok_subI, Ok_mulI, Ok_modI, Ok_divI, Ok_powI, Ok_ltI, Ok_leI, Ok_gtI, Ok_geI, Ok_addT, Ok_intI, Ok_intB, Ok_boolI, Ok_abs, Ok_lenT, Ok_tupleT, Ok_listT, Ok_ixT, Ok_slT, Ok_revT, Ok_dict0, Ok_dict1C, Ok_iAny, Ok_rngM1, Ok_rngM2, OkS_asgSub, Ok_neS, Ok_eqS, OkS_seq, OkS_pass, OkS_ret, OkS_retN, OkS_drop, OkS_set, OkS_par, OkS_if, Ok_nil, Ok_cons, Ok_bin, Ok_eC, Ok_call, Ok_fn1, Ok_fnK, Ok_tup, Ok_lst, Ok_isi, Ok_sl, Ok_pNone, Ok_pSome, Ok_neg, Ok_rev, Ok_rg1, Ok_comp, Ok_var, Ok_body, List.map_cons, List.map_nil, List.replicate_succ, List.replicate_zero, List.length_cons, List.length_nil, Nat.reduceSub, Nat.reduceAdd, List.cons_append, List.nil_append, List.getElem?_cons_succ, List.getElem?_cons_zero, List.set_cons_succ, List.set_cons_zero, Option.some.injEq, exists_eq_left', exists_eq_left, D.bl.injEq, D.int.injEq, List.cons.injEq, true_and, and_true, pickL, wipeE, List.map, Ok_if, ex2]
  refine ⟨Nat.zero_le _, by decide, ?_⟩
  refine parts_loop (hg.app _) (get_last _ _) hn fun S' m o o' gr h => ?_
  simp only [Ok_ok, Ok_bind, Ok_tOf, Ok_tNot, Ok_tAnd, Ok_tOr, Ok_eIf, Ok_andV, Ok_orV, Ok_notV, Ok_chain, Ok_addI, Ok_subI, Ok_mulI, Ok_modI, Ok_divI, Ok_powI, Ok_ltI, Ok_leI, Ok_gtI, Ok_geI, Ok_addT, Ok_intI, Ok_intB, Ok_boolI, Ok_abs, Ok_lenT, Ok_tupleT, Ok_listT, Ok_ixT, Ok_slT, Ok_revT, Ok_dict0, Ok_dict1C, Ok_iAny, Ok_rngM1, Ok_rngM2, OkS_asgSub, Ok_neS, Ok_eqS, OkS_seq, OkS_pass, OkS_ret, OkS_retN, OkS_drop, OkS_set, OkS_par, OkS_if, Ok_nil, Ok_cons, Ok_bin, Ok_eC, Ok_call, Ok_fn1, Ok_fnK, Ok_tup, Ok_lst, Ok_isi, Ok_sl, Ok_pNone, Ok_pSome, Ok_neg, Ok_rev, Ok_rg1, OkS_for, Ok_comp, Ok_var, Ok_body, List.map_cons, List.map_nil, List.replicate_succ, List.replicate_zero, List.length_cons, List.length_nil, Nat.reduceSub, Nat.reduceAdd, List.cons_append, List.nil_append, List.getElem?_cons_succ, List.getElem?_cons_zero, List.set_cons_succ, List.set_cons_zero, Option.some.injEq, exists_eq_left', exists_eq_left, D.bl.injEq, D.int.injEq, List.cons.injEq, true_and, and_true, pickL, wipeE, List.map, Ok_if, ex2]
  refine Ok_sortT h ?_
  rw [Ok_tupleL (.inl (get_last _ _))]
  exact hP _ (((Gr.app _).trans gr).trans (Gr.app _))
theorem ok_law_parts {g : D} {ns : List Int} {S : Store} {P : D → Store → Prop} (hg : IsSeq S g ns) (hn : ns.length ≤ 10) (hP : ∀ S' n, Gr0 S S' → S.length ≤ n → S'[n]? = some (.lst ((partsI ns).map tupI)) → P (.ptr n) S') : Ok (f__law_parts [g] S) P := by
  unfold f__law_parts b__law_parts
  simp only [Ok_ok, Ok_bind, Ok_tOf, Ok_tNot, Ok_tAnd, Ok_tOr, Ok_eIf, Ok_andV, Ok_orV, Ok_notV, Ok_chain, Ok_addI, Ok_subI, Ok_mulI, Ok_modI, Ok_divI, Ok_powI, Ok_ltI, Ok_leI, Ok_gtI, Ok_geI, Ok_addT, Ok_intI, Ok_intB, Ok_boolI, Ok_abs, Ok_lenT, Ok_tupleT, Ok_listT, Ok_ixT, Ok_slT, Ok_revT, Ok_dict0, Ok_dict1C, Ok_iAny, Ok_rngM1, Ok_rngM2, OkS_asgSub, Ok_neS, Ok_eqS, OkS_seq, OkS_pass, OkS_ret, OkS_retN, OkS_drop, OkS_set, OkS_par, OkS_if, Ok_nil, Ok_cons, Ok_bin, Ok_eC, Ok_call, Ok_fn1, Ok_fnK, Ok_tup, Ok_lst, Ok_isi, Ok_sl, Ok_pNone, Ok_pSome, Ok_neg, Ok_rev, Ok_rg1, Ok_comp, Ok_var, Ok_body, List.map_cons, List.map_nil, List.replicate_succ, List.replicate_zero, List.length_cons, List.length_nil, Nat.reduceSub, Nat.reduceAdd, List.cons_append, List.nil_append, List.getElem?_cons_succ, List.getElem?_cons_zero, List.set_cons_succ, List.set_cons_zero, Option.some.injEq, exists_eq_left', exists_eq_left, D.bl.injEq, D.int.injEq, List.cons.injEq, true_and, and_true, pickL, wipeE, List.map, Ok_if, ex2]
  refine ⟨Nat.zero_le _, by decide, ?_⟩
  refine parts_loop (hg.app _) (get_last _ _) hn fun S' m o o' gr h => ?_
  simp only [Ok_ok, Ok_bind, Ok_tOf, Ok_tNot, Ok_tAnd, Ok_tOr, Ok_eIf, Ok_andV, Ok_orV, Ok_notV, Ok_chain, Ok_addI, Ok_subI, Ok_mulI, Ok_modI, Ok_divI, Ok_powI, Ok_ltI, Ok_leI, Ok_gtI, Ok_geI, Ok_addT, Ok_intI, Ok_intB, Ok_boolI, Ok_abs, Ok_lenT, Ok_tupleT, Ok_listT, Ok_ixT, Ok_slT, Ok_revT, Ok_dict0, Ok_dict1C, Ok_iAny, Ok_rngM1, Ok_rngM2, OkS_asgSub, Ok_neS, Ok_eqS, OkS_seq, OkS_pass, OkS_ret, OkS_retN, OkS_drop, OkS_set, OkS_par, OkS_if, Ok_nil, Ok_cons, Ok_bin, Ok_eC, Ok_call, Ok_fn1, Ok_fnK, Ok_tup, Ok_lst, Ok_isi, Ok_sl, Ok_pNone, Ok_pSome, Ok_neg, Ok_rev, Ok_rg1, OkS_for, Ok_comp, Ok_var, Ok_body, List.map_cons, List.map_nil, List.replicate_succ, List.replicate_zero, List.length_cons, List.length_nil, Nat.reduceSub, Nat.reduceAdd, List.cons_append, List.nil_append, List.getElem?_cons_succ, List.getElem?_cons_zero, List.set_cons_succ, List.set_cons_zero, Option.some.injEq, exists_eq_left', exists_eq_left, D.bl.injEq, D.int.injEq, List.cons.injEq, true_and, and_true, pickL, wipeE, List.map, Ok_if, ex2]
  refine Ok_sortT h ?_
  have g2 := (Gr.app (q := fun _ => False) (S := S) [.lst [tupI []]]).trans gr
  exact hP _ _ (g2.trans (Gr.app _)) g2.len (get_last _ _)
theorem range_ints (n : Nat) : rangeD 0 n = ((List.range n).map fun i => ((i : Nat) : Int)).map D.int := by
  unfold rangeD
  rw [List.map_map]
  refine List.map_congr_left fun i _ => ?_
  show D.int (0 + (i : Int)) = .int i
  rw [Int.zero_add]
def upto (n : Nat) : List Int := (List.range n).map fun i => ((i : Nat) : Int)
theorem upto_len (n : Nat) : (upto n).length = n := by unfold upto; simp
theorem ok_groups {h : Nat} {S : Store} {P : D → Store → Prop} (hn : h ≤ 10) (hP : ∀ S', Gr0 S S' → P (.tup ((partsI (upto h)).map tupI)) S') : Ok (f_groups [.int h] S) P := by
  unfold f_groups b_groups
  simp only [Ok_ok, Ok_bind, Ok_tOf, Ok_tNot, Ok_tAnd, Ok_tOr, Ok_eIf, Ok_andV, Ok_orV, Ok_notV, Ok_chain, Ok_addI, Ok_subI, Ok_mulI, Ok_modI, Ok_divI, Ok_powI, Ok_ltI, Ok_leI, Ok_gtI, Ok_geI, Ok_addT, Ok_intI, Ok_intB, Ok_boolI, Ok_abs, Ok_lenT, Ok_tupleT, Ok_listT, Ok_ixT, Ok_slT, Ok_revT, Ok_dict0, Ok_dict1C, Ok_iAny, Ok_rngM1, Ok_rngM2, OkS_asgSub, Ok_neS, Ok_eqS, OkS_seq, OkS_pass, OkS_ret, OkS_retN, OkS_drop, OkS_set, OkS_par, OkS_if, Ok_nil, Ok_cons, Ok_bin, Ok_eC, Ok_call, Ok_fn1, Ok_fnK, Ok_tup, Ok_lst, Ok_isi, Ok_sl, Ok_pNone, Ok_pSome, Ok_neg, Ok_rev, Ok_rg1, Ok_comp, Ok_var, Ok_body, List.map_cons, List.map_nil, List.replicate_succ, List.replicate_zero, List.length_cons, List.length_nil, Nat.reduceSub, Nat.reduceAdd, List.cons_append, List.nil_append, List.getElem?_cons_succ, List.getElem?_cons_zero, List.set_cons_succ, List.set_cons_zero, Option.some.injEq, exists_eq_left', exists_eq_left, D.bl.injEq, D.int.injEq, List.cons.injEq, true_and, and_true, pickL, wipeE, List.map, Ok_if, ex2]
  rw [Ok_tupRg]
  refine ⟨by unfold RgOk; omega, ?_⟩
  refine ok_parts (.inl ?_) (by rw [upto_len]; exact hn) hP
  rw [show ((h : Int) - 0).toNat = h by omega]
  exact congrArg D.tup (range_ints h)
theorem ok_law_groups {h : Nat} {S : Store} {P : D → Store → Prop} (hn : h ≤ 10) (hP : ∀ S' n, Gr0 S S' → S.length ≤ n → S'[n]? = some (.lst ((partsI (upto h)).map tupI)) → P (.ptr n) S') : Ok (f__law_groups [.int h] S) P := by
  unfold f__law_groups b__law_groups
  simp only [Ok_ok, Ok_bind, Ok_tOf, Ok_tNot, Ok_tAnd, Ok_tOr, Ok_eIf, Ok_andV, Ok_orV, Ok_notV, Ok_chain, Ok_addI, Ok_subI, Ok_mulI, Ok_modI, Ok_divI, Ok_powI, Ok_ltI, Ok_leI, Ok_gtI, Ok_geI, Ok_addT, Ok_intI, Ok_intB, Ok_boolI, Ok_abs, Ok_lenT, Ok_tupleT, Ok_listT, Ok_ixT, Ok_slT, Ok_revT, Ok_dict0, Ok_dict1C, Ok_iAny, Ok_rngM1, Ok_rngM2, OkS_asgSub, Ok_neS, Ok_eqS, OkS_seq, OkS_pass, OkS_ret, OkS_retN, OkS_drop, OkS_set, OkS_par, OkS_if, Ok_nil, Ok_cons, Ok_bin, Ok_eC, Ok_call, Ok_fn1, Ok_fnK, Ok_tup, Ok_lst, Ok_isi, Ok_sl, Ok_pNone, Ok_pSome, Ok_neg, Ok_rev, Ok_rg1, Ok_comp, Ok_var, Ok_body, List.map_cons, List.map_nil, List.replicate_succ, List.replicate_zero, List.length_cons, List.length_nil, Nat.reduceSub, Nat.reduceAdd, List.cons_append, List.nil_append, List.getElem?_cons_succ, List.getElem?_cons_zero, List.set_cons_succ, List.set_cons_zero, Option.some.injEq, exists_eq_left', exists_eq_left, D.bl.injEq, D.int.injEq, List.cons.injEq, true_and, and_true, pickL, wipeE, List.map, Ok_if, ex2]
  rw [Ok_lstRg]
  refine ⟨by unfold RgOk; omega, ?_⟩
  refine ok_law_parts (ns := upto h) (.inr ⟨_, rfl, ?_⟩) (by rw [upto_len]; exact hn) fun S' n gr hl hs => hP S' n ((Gr.app _).trans gr) (by rw [List.length_append] at hl; omega) hs
  rw [get_last, show ((h : Int) - 0).toNat = h by omega, range_ints h]
  rfl

/-! ### the deck -/
abbrev bits := Builtin.Int.intBits
theorem bits64 {i : Int} (h1 : -(2 ^ 64) < i) (h2 : i < 2 ^ 64) : bits i ≤ 64 := intBits_le_64 h1 h2
def DeckOk (S : Store) (p : Nat) (t : Int) : Prop := ∃ a b c : Int, S[p]? = some (.lst [.int a, .int b, .int c]) ∧ bits a ≤ 2000000 ∧ 0 ≤ b ∧ b < 2 ^ 61 ∧ 0 ≤ c ∧ c ≤ t
theorem cut63 (xs : List D) : ∃ k, RL.cutD xs none (some 63) = xs.take k ∧ (xs.take k).length ≤ 63 := by
  refine ⟨min 63 xs.length, ?_, by rw [List.length_take]; omega⟩
  unfold RL.cutD
  rw [HT.sIx_none, show HT.sIx xs.length xs.length (some 63) = min 63 xs.length from HT.sIx_nat xs.length xs.length 63, Nat.sub_zero, List.drop_zero]
theorem put_deck {S : Store} {p : Nat} {xs : List D} {k : Int} {j : Nat} {d : D} (h : S[p]? = some (.lst xs)) (hk : ixN xs.length k = some j) : putL (.ptr p) (.int k) d S = some (S.set p (.lst (xs.set j d))) := by
  unfold putL
  simp only [h, hk]
  rfl
theorem get_put {S : Store} {p : Nat} {c d : Cell} (h : S[p]? = some c) : (S.set p d)[p]? = some d := by
  rw [List.getElem?_set_self (lt_of_get h)]
theorem ok_take {S : Store} {p : Nat} {t n : Int} {P : D → Store → Prop} (hd : DeckOk S p t) (ht : t < 2 ^ 60) (h1 : 1 ≤ n) (h2 : n < 2 ^ 60)
    (hP : ∀ S' i, 0 ≤ i → i < n → DeckOk S' p (t + 1) → S'.length = S.length → Gr (· = p) S S' → P (.int i) S') : Ok (f__law_take [.ptr p, .int n] S) P := by
  obtain ⟨a, b, c, hS, ha, b0, b1, c0, c1⟩ := hd
  have n9 : n.natAbs.log2 < 9000 := by
    have : n.natAbs < 2 ^ 61 := by omega
    have := (Nat.log2_lt (n := n.natAbs) (k := 61) (by omega)).mpr this
    omega
  unfold f__law_take b__law_take
  simp only [Ok_ok, Ok_bind, Ok_tOf, Ok_tNot, Ok_tAnd, Ok_tOr, Ok_eIf, Ok_andV, Ok_orV, Ok_notV, Ok_chain, Ok_addI, Ok_subI, Ok_mulI, Ok_modI, Ok_divI, Ok_powI, Ok_ltI, Ok_leI, Ok_gtI, Ok_geI, Ok_addT, Ok_intI, Ok_intB, Ok_boolI, Ok_abs, Ok_lenT, Ok_tupleT, Ok_listT, Ok_ixT, Ok_slT, Ok_revT, Ok_dict0, Ok_dict1C, Ok_iAny, Ok_rngM1, Ok_rngM2, OkS_asgSub, Ok_neS, Ok_eqS, OkS_seq, OkS_pass, OkS_ret, OkS_retN, OkS_drop, OkS_set, OkS_par, OkS_if, Ok_nil, Ok_cons, Ok_bin, Ok_eC, Ok_call, Ok_fn1, Ok_fnK, Ok_tup, Ok_lst, Ok_isi, Ok_sl, Ok_pNone, Ok_pSome, Ok_neg, Ok_rev, Ok_rg1, Ok_comp, Ok_var, Ok_body, List.map_cons, List.map_nil, List.replicate_succ, List.replicate_zero, List.length_cons, List.length_nil, Nat.reduceSub, Nat.reduceAdd, List.cons_append, List.nil_append, List.getElem?_cons_succ, List.getElem?_cons_zero, List.set_cons_succ, List.set_cons_zero, Option.some.injEq, exists_eq_left', exists_eq_left, D.bl.injEq, D.int.injEq, List.cons.injEq, true_and, and_true, pickL, wipeE, List.map, Ok_if, ex2]
  rw [Ok_ixL (.inl hS)]
  refine ⟨_, rfl, ?_⟩
  simp only [Ok_ok, Ok_bind, Ok_tOf, Ok_tNot, Ok_tAnd, Ok_tOr, Ok_eIf, Ok_andV, Ok_orV, Ok_notV, Ok_chain, Ok_addI, Ok_subI, Ok_mulI, Ok_modI, Ok_divI, Ok_powI, Ok_ltI, Ok_leI, Ok_gtI, Ok_geI, Ok_addT, Ok_intI, Ok_intB, Ok_boolI, Ok_abs, Ok_lenT, Ok_tupleT, Ok_listT, Ok_ixT, Ok_slT, Ok_revT, Ok_dict0, Ok_dict1C, Ok_iAny, Ok_rngM1, Ok_rngM2, OkS_asgSub, Ok_neS, Ok_eqS, OkS_seq, OkS_pass, OkS_ret, OkS_retN, OkS_drop, OkS_set, OkS_par, OkS_if, Ok_nil, Ok_cons, Ok_bin, Ok_eC, Ok_call, Ok_fn1, Ok_fnK, Ok_tup, Ok_lst, Ok_isi, Ok_sl, Ok_pNone, Ok_pSome, Ok_neg, Ok_rev, Ok_rg1, Ok_comp, Ok_var, Ok_body, List.map_cons, List.map_nil, List.replicate_succ, List.replicate_zero, List.length_cons, List.length_nil, Nat.reduceSub, Nat.reduceAdd, List.cons_append, List.nil_append, List.getElem?_cons_succ, List.getElem?_cons_zero, List.set_cons_succ, List.set_cons_zero, Option.some.injEq, exists_eq_left', exists_eq_left, D.bl.injEq, D.int.injEq, List.cons.injEq, true_and, and_true, pickL, wipeE, List.map, Ok_if, ex2]
  by_cases h : 0 < a
  · rw [if_pos (by simpa using h)]
    rw [Ok_ixL (.inl hS)]
    refine ⟨_, rfl, ?_⟩
    simp only [Ok_ok, Ok_bind, Ok_tOf, Ok_tNot, Ok_tAnd, Ok_tOr, Ok_eIf, Ok_andV, Ok_orV, Ok_notV, Ok_chain, Ok_addI, Ok_subI, Ok_mulI, Ok_modI, Ok_divI, Ok_powI, Ok_ltI, Ok_leI, Ok_gtI, Ok_geI, Ok_addT, Ok_intI, Ok_intB, Ok_boolI, Ok_abs, Ok_lenT, Ok_tupleT, Ok_listT, Ok_ixT, Ok_slT, Ok_revT, Ok_dict0, Ok_dict1C, Ok_iAny, Ok_rngM1, Ok_rngM2, OkS_asgSub, Ok_neS, Ok_eqS, OkS_seq, OkS_pass, OkS_ret, OkS_retN, OkS_drop, OkS_set, OkS_par, OkS_if, Ok_nil, Ok_cons, Ok_bin, Ok_eC, Ok_call, Ok_fn1, Ok_fnK, Ok_tup, Ok_lst, Ok_isi, Ok_sl, Ok_pNone, Ok_pSome, Ok_neg, Ok_rev, Ok_rg1, Ok_comp, Ok_var, Ok_body, List.map_cons, List.map_nil, List.replicate_succ, List.replicate_zero, List.length_cons, List.length_nil, Nat.reduceSub, Nat.reduceAdd, List.cons_append, List.nil_append, List.getElem?_cons_succ, List.getElem?_cons_zero, List.set_cons_succ, List.set_cons_zero, Option.some.injEq, exists_eq_left', exists_eq_left, D.bl.injEq, D.int.injEq, List.cons.injEq, true_and, and_true, pickL, wipeE, List.map, Ok_if, ex2]
    refine ⟨by omega, ?_⟩
    rw [Ok_ixL (.inl hS)]
    refine ⟨_, rfl, ?_⟩
    simp only [Ok_ok, Ok_bind, Ok_tOf, Ok_tNot, Ok_tAnd, Ok_tOr, Ok_eIf, Ok_andV, Ok_orV, Ok_notV, Ok_chain, Ok_addI, Ok_subI, Ok_mulI, Ok_modI, Ok_divI, Ok_powI, Ok_ltI, Ok_leI, Ok_gtI, Ok_geI, Ok_addT, Ok_intI, Ok_intB, Ok_boolI, Ok_abs, Ok_lenT, Ok_tupleT, Ok_listT, Ok_ixT, Ok_slT, Ok_revT, Ok_dict0, Ok_dict1C, Ok_iAny, Ok_rngM1, Ok_rngM2, OkS_asgSub, Ok_neS, Ok_eqS, OkS_seq, OkS_pass, OkS_ret, OkS_retN, OkS_drop, OkS_set, OkS_par, OkS_if, Ok_nil, Ok_cons, Ok_bin, Ok_eC, Ok_call, Ok_fn1, Ok_fnK, Ok_tup, Ok_lst, Ok_isi, Ok_sl, Ok_pNone, Ok_pSome, Ok_neg, Ok_rev, Ok_rg1, Ok_comp, Ok_var, Ok_body, List.map_cons, List.map_nil, List.replicate_succ, List.replicate_zero, List.length_cons, List.length_nil, Nat.reduceSub, Nat.reduceAdd, List.cons_append, List.nil_append, List.getElem?_cons_succ, List.getElem?_cons_zero, List.set_cons_succ, List.set_cons_zero, Option.some.injEq, exists_eq_left', exists_eq_left, D.bl.injEq, D.int.injEq, List.cons.injEq, true_and, and_true, pickL, wipeE, List.map, Ok_if, ex2]
    refine ⟨⟨by omega, n9⟩, _, put_deck hS rfl, ?_⟩
    refine hP _ _ (Int.emod_nonneg _ (by omega)) (Int.emod_lt_of_pos _ (by omega)) ⟨_, b, c, get_put hS, ?_, b0, b1, c0, by omega⟩ (List.length_set) (Gr.put _ rfl)
    refine intBits_le_of_natAbs ?_ ha
    have q1 : 0 ≤ a / n := Int.ediv_nonneg (by omega) (by omega)
    have q2 : a / n ≤ a := Int.ediv_le_self _ (by omega)
    omega
  · rw [if_neg (by simpa using h)]
    rw [Ok_ixL (.inl hS)]
    refine ⟨_, rfl, ?_⟩
    simp only [Ok_ok, Ok_bind, Ok_tOf, Ok_tNot, Ok_tAnd, Ok_tOr, Ok_eIf, Ok_andV, Ok_orV, Ok_notV, Ok_chain, Ok_addI, Ok_subI, Ok_mulI, Ok_modI, Ok_divI, Ok_powI, Ok_ltI, Ok_leI, Ok_gtI, Ok_geI, Ok_addT, Ok_intI, Ok_intB, Ok_boolI, Ok_abs, Ok_lenT, Ok_tupleT, Ok_listT, Ok_ixT, Ok_slT, Ok_revT, Ok_dict0, Ok_dict1C, Ok_iAny, Ok_rngM1, Ok_rngM2, OkS_asgSub, Ok_neS, Ok_eqS, OkS_seq, OkS_pass, OkS_ret, OkS_retN, OkS_drop, OkS_set, OkS_par, OkS_if, Ok_nil, Ok_cons, Ok_bin, Ok_eC, Ok_call, Ok_fn1, Ok_fnK, Ok_tup, Ok_lst, Ok_isi, Ok_sl, Ok_pNone, Ok_pSome, Ok_neg, Ok_rev, Ok_rg1, Ok_comp, Ok_var, Ok_body, List.map_cons, List.map_nil, List.replicate_succ, List.replicate_zero, List.length_cons, List.length_nil, Nat.reduceSub, Nat.reduceAdd, List.cons_append, List.nil_append, List.getElem?_cons_succ, List.getElem?_cons_zero, List.set_cons_succ, List.set_cons_zero, Option.some.injEq, exists_eq_left', exists_eq_left, D.bl.injEq, D.int.injEq, List.cons.injEq, true_and, and_true, pickL, wipeE, List.map, Ok_if, ex2]
    refine ⟨_, put_deck (j := 2) hS rfl, ?_⟩
    have hS1 : (S.set p (.lst ([.int a, .int b, .int c].set 2 (.int (c + 1)))))[p]? = some (.lst [.int a, .int b, .int (c + 1)]) := get_put hS
    have len1 : (S.set p (.lst ([.int a, .int b, .int c].set 2 (.int (c + 1))))).length = S.length := List.length_set
    have gr1 : Gr (· = p) S (S.set p (.lst ([.int a, .int b, .int c].set 2 (.int (c + 1))))) := Gr.put _ rfl
    have e2 : ixN [D.int a, .int b, .int c].length 2 = some 2 := rfl
    generalize S.set p (.lst ([.int a, .int b, .int c].set 2 (.int (c + 1)))) = S1 at *
    rw [Ok_ixL (.inl hS1)]
    refine ⟨_, rfl, ?_⟩
    have bb : bits b ≤ 64 := bits64 (by omega) (by omega)
    have bc : bits (c + 1) ≤ 64 := bits64 (by omega) (by omega)
    simp only [Ok_ok, Ok_bind, Ok_tOf, Ok_tNot, Ok_tAnd, Ok_tOr, Ok_eIf, Ok_andV, Ok_orV, Ok_notV, Ok_chain, Ok_addI, Ok_subI, Ok_mulI, Ok_modI, Ok_divI, Ok_powI, Ok_ltI, Ok_leI, Ok_gtI, Ok_geI, Ok_addT, Ok_intI, Ok_intB, Ok_boolI, Ok_abs, Ok_lenT, Ok_tupleT, Ok_listT, Ok_ixT, Ok_slT, Ok_revT, Ok_dict0, Ok_dict1C, Ok_iAny, Ok_rngM1, Ok_rngM2, OkS_asgSub, Ok_neS, Ok_eqS, OkS_seq, OkS_pass, OkS_ret, OkS_retN, OkS_drop, OkS_set, OkS_par, OkS_if, Ok_nil, Ok_cons, Ok_bin, Ok_eC, Ok_call, Ok_fn1, Ok_fnK, Ok_tup, Ok_lst, Ok_isi, Ok_sl, Ok_pNone, Ok_pSome, Ok_neg, Ok_rev, Ok_rg1, Ok_comp, Ok_var, Ok_body, List.map_cons, List.map_nil, List.replicate_succ, List.replicate_zero, List.length_cons, List.length_nil, Nat.reduceSub, Nat.reduceAdd, List.cons_append, List.nil_append, List.getElem?_cons_succ, List.getElem?_cons_zero, List.set_cons_succ, List.set_cons_zero, Option.some.injEq, exists_eq_left', exists_eq_left, D.bl.injEq, D.int.injEq, List.cons.injEq, true_and, and_true, pickL, wipeE, List.map, Ok_if, ex2]
    refine ⟨?_, ?_⟩
    · have : bits 2862933555777941757 ≤ 64 := bits64 (by decide) (by decide)
      show (bits b : Int) + (bits 2862933555777941757 : Int) ≤ 134217728
      omega
    rw [Ok_ixL (.inl hS1)]
    refine ⟨_, rfl, ?_⟩
    simp only [Ok_ok, Ok_bind, Ok_tOf, Ok_tNot, Ok_tAnd, Ok_tOr, Ok_eIf, Ok_andV, Ok_orV, Ok_notV, Ok_chain, Ok_addI, Ok_subI, Ok_mulI, Ok_modI, Ok_divI, Ok_powI, Ok_ltI, Ok_leI, Ok_gtI, Ok_geI, Ok_addT, Ok_intI, Ok_intB, Ok_boolI, Ok_abs, Ok_lenT, Ok_tupleT, Ok_listT, Ok_ixT, Ok_slT, Ok_revT, Ok_dict0, Ok_dict1C, Ok_iAny, Ok_rngM1, Ok_rngM2, OkS_asgSub, Ok_neS, Ok_eqS, OkS_seq, OkS_pass, OkS_ret, OkS_retN, OkS_drop, OkS_set, OkS_par, OkS_if, Ok_nil, Ok_cons, Ok_bin, Ok_eC, Ok_call, Ok_fn1, Ok_fnK, Ok_tup, Ok_lst, Ok_isi, Ok_sl, Ok_pNone, Ok_pSome, Ok_neg, Ok_rev, Ok_rg1, Ok_comp, Ok_var, Ok_body, List.map_cons, List.map_nil, List.replicate_succ, List.replicate_zero, List.length_cons, List.length_nil, Nat.reduceSub, Nat.reduceAdd, List.cons_append, List.nil_append, List.getElem?_cons_succ, List.getElem?_cons_zero, List.set_cons_succ, List.set_cons_zero, Option.some.injEq, exists_eq_left', exists_eq_left, D.bl.injEq, D.int.injEq, List.cons.injEq, true_and, and_true, pickL, wipeE, List.map, Ok_if, ex2]
    refine ⟨?_, ?_⟩
    · have : bits 1181783497276652981 ≤ 64 := bits64 (by decide) (by decide)
      show (bits 1181783497276652981 : Int) + (bits (c + 1) : Int) ≤ 134217728
      omega
    refine ⟨by decide, _, put_deck (j := 1) hS1 rfl, ?_⟩
    generalize hm : (b * 2862933555777941757 + 1181783497276652981 * (c + 1) + 7) % 2305843009213693951 = m
    have m0 : 0 ≤ m := by omega
    have m1 : m < 2305843009213693951 := by omega
    have hS2 : (S1.set p (.lst ([.int a, .int b, .int (c + 1)].set 1 (.int m))))[p]? = some (.lst [.int a, .int m, .int (c + 1)]) := get_put hS1
    have len2 : (S1.set p (.lst ([.int a, .int b, .int (c + 1)].set 1 (.int m)))).length = S1.length := List.length_set
    have gr2 : Gr (· = p) S1 (S1.set p (.lst ([.int a, .int b, .int (c + 1)].set 1 (.int m)))) := Gr.put _ rfl
    generalize S1.set p (.lst ([.int a, .int b, .int (c + 1)].set 1 (.int m))) = S2 at *
    rw [Ok_ixL (.inl hS2)]
    refine ⟨_, rfl, ?_⟩
    rw [Ok_ixL (.inl hS2)]
    refine ⟨_, rfl, ?_⟩
    have bm : bits m ≤ 64 := bits64 (by omega) (by omega)
    simp only [Ok_ok, Ok_bind, Ok_tOf, Ok_tNot, Ok_tAnd, Ok_tOr, Ok_eIf, Ok_andV, Ok_orV, Ok_notV, Ok_chain, Ok_addI, Ok_subI, Ok_mulI, Ok_modI, Ok_divI, Ok_powI, Ok_ltI, Ok_leI, Ok_gtI, Ok_geI, Ok_addT, Ok_intI, Ok_intB, Ok_boolI, Ok_abs, Ok_lenT, Ok_tupleT, Ok_listT, Ok_ixT, Ok_slT, Ok_revT, Ok_dict0, Ok_dict1C, Ok_iAny, Ok_rngM1, Ok_rngM2, OkS_asgSub, Ok_neS, Ok_eqS, OkS_seq, OkS_pass, OkS_ret, OkS_retN, OkS_drop, OkS_set, OkS_par, OkS_if, Ok_nil, Ok_cons, Ok_bin, Ok_eC, Ok_call, Ok_fn1, Ok_fnK, Ok_tup, Ok_lst, Ok_isi, Ok_sl, Ok_pNone, Ok_pSome, Ok_neg, Ok_rev, Ok_rg1, Ok_comp, Ok_var, Ok_body, List.map_cons, List.map_nil, List.replicate_succ, List.replicate_zero, List.length_cons, List.length_nil, Nat.reduceSub, Nat.reduceAdd, List.cons_append, List.nil_append, List.getElem?_cons_succ, List.getElem?_cons_zero, List.set_cons_succ, List.set_cons_zero, Option.some.injEq, exists_eq_left', exists_eq_left, D.bl.injEq, D.int.injEq, List.cons.injEq, true_and, and_true, pickL, wipeE, List.map, Ok_if, ex2]
    refine ⟨?_, by decide, ⟨by decide, ?_⟩, by omega, ?_⟩
    · show (bits m : Int) + (bits m : Int) ≤ 134217728
      omega
    · exact Nat.lt_of_le_of_lt (show _ ≤ 12 by decide) (by decide)
    · exact hP _ _ (Int.emod_nonneg _ (by omega)) (Int.emod_lt_of_pos _ (by omega)) ⟨a, m, c + 1, hS2, ha, m0, by omega, by omega, by omega⟩ (len2.trans len1) (gr1.trans gr2)
/-- one of the items of a list that stands apart from the deck -/
theorem ok_pick {S : Store} {p n : Nat} {t : Int} {xs : List D} {P : D → Store → Prop} (hd : DeckOk S p t) (ht : t < 2 ^ 60) (hn : S[n]? = some (.lst xs)) (hp : n ≠ p) (hx : xs ≠ []) (hl : xs.length < 2 ^ 60)
    (hP : ∀ S' d, d ∈ xs → DeckOk S' p (t + 1) → S'.length = S.length → Gr (· = p) S S' → P d S') : Ok (f__law_pick [.ptr p, .ptr n] S) P := by
  unfold f__law_pick b__law_pick
  simp only [Ok_ok, Ok_bind, Ok_tOf, Ok_tNot, Ok_tAnd, Ok_tOr, Ok_eIf, Ok_andV, Ok_orV, Ok_notV, Ok_chain, Ok_addI, Ok_subI, Ok_mulI, Ok_modI, Ok_divI, Ok_powI, Ok_ltI, Ok_leI, Ok_gtI, Ok_geI, Ok_addT, Ok_intI, Ok_intB, Ok_boolI, Ok_abs, Ok_lenT, Ok_tupleT, Ok_listT, Ok_ixT, Ok_slT, Ok_revT, Ok_dict0, Ok_dict1C, Ok_iAny, Ok_rngM1, Ok_rngM2, OkS_asgSub, Ok_neS, Ok_eqS, OkS_seq, OkS_pass, OkS_ret, OkS_retN, OkS_drop, OkS_set, OkS_par, OkS_if, Ok_nil, Ok_cons, Ok_bin, Ok_eC, Ok_call, Ok_fn1, Ok_fnK, Ok_tup, Ok_lst, Ok_isi, Ok_sl, Ok_pNone, Ok_pSome, Ok_neg, Ok_rev, Ok_rg1, Ok_comp, Ok_var, Ok_body, List.map_cons, List.map_nil, List.replicate_succ, List.replicate_zero, List.length_cons, List.length_nil, Nat.reduceSub, Nat.reduceAdd, List.cons_append, List.nil_append, List.getElem?_cons_succ, List.getElem?_cons_zero, List.set_cons_succ, List.set_cons_zero, Option.some.injEq, exists_eq_left', exists_eq_left, D.bl.injEq, D.int.injEq, List.cons.injEq, true_and, and_true, pickL, wipeE, List.map, Ok_if, ex2]
  rw [Ok_lenL (.inl hn)]
  have pos : 0 < xs.length := List.length_pos_iff.mpr hx
  refine ok_take hd ht (by omega) (by omega) fun S' i i0 i1 hd' hl' gr => ?_
  rw [Ok_ixL (.inl (gr.get hn hp))]
  obtain ⟨j, rfl⟩ : ∃ j : Nat, i = j := ⟨i.toNat, by omega⟩
  have hj : j < xs.length := by omega
  exact ⟨_, atD_nat (List.getElem?_eq_getElem hj), hP S' _ (List.getElem_mem hj) hd' hl' gr⟩

theorem mul_ok {a b : Int} {m n : Nat} (h1 : bits a ≤ m) (h2 : bits b ≤ n) (h : m + n ≤ 134217728) : (Builtin.Int.intBits a : Int) + (Builtin.Int.intBits b : Int) ≤ 134217728 := by
  have h1 : Builtin.Int.intBits a ≤ m := h1
  have h2 : Builtin.Int.intBits b ≤ n := h2
  revert h1 h2
  generalize Builtin.Int.intBits a = x
  generalize Builtin.Int.intBits b = y
  intro h1 h2
  omega
theorem qa {l : Nat} (h : l + 1 ≤ 63) : 1048576 + 8 * (63 - (l + 1)) + 6 ≤ 134217728 := by omega
theorem qb {l : Nat} (h : l + 1 ≤ 63) : 1048576 + 8 * (63 - (l + 1)) + 8 ≤ 1048576 + 8 * (63 - l) := by omega
theorem qc {l : Nat} (h : l + 1 ≤ 63) : l ≤ 63 := by omega
theorem qd {l : Nat} (h : l + 1 ≤ 63) : 1048576 + 8 * (63 - (l + 1)) ≤ 1048576 + 8 * (63 - l) := by omega
theorem qe {l : Nat} : 1048576 + 8 * (63 - l) ≤ 2000000 := by omega
theorem qf (l : Nat) : 0 ≤ 12752 + 41 * (l : Int) := by omega
theorem qg {l : Nat} (h : l ≤ 63) : 12752 + 41 * (l : Int) < 2 ^ 61 := by omega
theorem step_bits {great z : Int} {m : Nat} (h1 : bits great ≤ m) (hm : 1048576 ≤ m) (hz : bits z ≤ 1048576) : bits (great * 47 + z - 1000000000000000000) ≤ m + 8 := by
  refine Nat.le_trans (intBits_sub_le (intBits_add_le (intBits_mul_le h1 (show bits 47 ≤ 6 by decide +kernel)) hz) (bits64 (by decide) (by decide))) ?_
  have : ∀ m : Nat, 1048576 ≤ m → max (max (m + 6) 1048576 + 1) 64 + 1 ≤ m + 8 := fun m h => by omega
  exact this m hm
theorem ok_deck {ns : List Int} {P : D → Store → Prop} (hl : ns.length ≤ 63) (hb : ∀ z ∈ ns, bits z ≤ 1048576) (hP : ∀ S' p, p < S'.length → DeckOk S' p 0 → P (.ptr p) S') : Ok (f__law_deck [.ptr 0] [.rol (ns.map D.int)]) P := by
  unfold f__law_deck b__law_deck
  simp only [Ok_ok, Ok_bind, Ok_tOf, Ok_tNot, Ok_tAnd, Ok_tOr, Ok_eIf, Ok_andV, Ok_orV, Ok_notV, Ok_chain, Ok_addI, Ok_subI, Ok_mulI, Ok_modI, Ok_divI, Ok_powI, Ok_ltI, Ok_leI, Ok_gtI, Ok_geI, Ok_addT, Ok_intI, Ok_intB, Ok_boolI, Ok_abs, Ok_lenT, Ok_tupleT, Ok_listT, Ok_ixT, Ok_slT, Ok_revT, Ok_dict0, Ok_dict1C, Ok_iAny, Ok_rngM1, Ok_rngM2, OkS_asgSub, Ok_neS, Ok_eqS, OkS_seq, OkS_pass, OkS_ret, OkS_retN, OkS_drop, OkS_set, OkS_par, OkS_if, Ok_nil, Ok_cons, Ok_bin, Ok_eC, Ok_call, Ok_fn1, Ok_fnK, Ok_tup, Ok_lst, Ok_isi, Ok_sl, Ok_pNone, Ok_pSome, Ok_neg, Ok_rev, Ok_rg1, Ok_comp, Ok_var, Ok_body, List.map_cons, List.map_nil, List.replicate_succ, List.replicate_zero, List.length_cons, List.length_nil, Nat.reduceSub, Nat.reduceAdd, List.cons_append, List.nil_append, List.getElem?_cons_succ, List.getElem?_cons_zero, List.set_cons_succ, List.set_cons_zero, Option.some.injEq, exists_eq_left', exists_eq_left, D.bl.injEq, D.int.injEq, List.cons.injEq, true_and, and_true, pickL, wipeE, List.map, Ok_if, ex2]
  rw [Ok_lenL (.inr rfl)]
  simp only [Ok_ok, Ok_bind, Ok_tOf, Ok_tNot, Ok_tAnd, Ok_tOr, Ok_eIf, Ok_andV, Ok_orV, Ok_notV, Ok_chain, Ok_addI, Ok_subI, Ok_mulI, Ok_modI, Ok_divI, Ok_powI, Ok_ltI, Ok_leI, Ok_gtI, Ok_geI, Ok_addT, Ok_intI, Ok_intB, Ok_boolI, Ok_abs, Ok_lenT, Ok_tupleT, Ok_listT, Ok_ixT, Ok_slT, Ok_revT, Ok_dict0, Ok_dict1C, Ok_iAny, Ok_rngM1, Ok_rngM2, OkS_asgSub, Ok_neS, Ok_eqS, OkS_seq, OkS_pass, OkS_ret, OkS_retN, OkS_drop, OkS_set, OkS_par, OkS_if, Ok_nil, Ok_cons, Ok_bin, Ok_eC, Ok_call, Ok_fn1, Ok_fnK, Ok_tup, Ok_lst, Ok_isi, Ok_sl, Ok_pNone, Ok_pSome, Ok_neg, Ok_rev, Ok_rg1, Ok_comp, Ok_var, Ok_body, List.map_cons, List.map_nil, List.replicate_succ, List.replicate_zero, List.length_cons, List.length_nil, Nat.reduceSub, Nat.reduceAdd, List.cons_append, List.nil_append, List.getElem?_cons_succ, List.getElem?_cons_zero, List.set_cons_succ, List.set_cons_zero, Option.some.injEq, exists_eq_left', exists_eq_left, D.bl.injEq, D.int.injEq, List.cons.injEq, true_and, and_true, pickL, wipeE, List.map, Ok_if, ex2]
  refine ⟨?_, ?_⟩
  · exact mul_ok (bits64 (by decide) (by decide)) (intBits_cast_le (by rw [List.length_map]; exact Nat.le_trans hl (by decide))) (by decide)
  have fin : ∀ (ms : List Int) (S1 : Store) (chk : Store → Prop), chk S1 → ms.length ≤ 63 → (∀ z ∈ ms, bits z ≤ 1048576) → ∀ (p : Ps), (∀ great small o, bits great ≤ 2000000 → 0 ≤ small → small < 2 ^ 61 → p.nx [some (.ptr 0), some (.int great), some (.int small), o] S1) →
      OkS (forM chk (gNm 3)
        (sSeq (sIf (tOf (eBin oGe (eVar 3) (eBin oPow (eC (.int 10)) (eC (.int 18)))))
          (sSeq (sSet 1 (eBin oSub (eBin oAdd (eBin oMul (eVar 1) (eC (.int 47))) (eVar 3)) (eBin oPow (eC (.int 10)) (eC (.int 18))))) sPass)
          (sSeq (sSet 2 (eBin oAdd (eBin oAdd (eBin oMul (eVar 2) (eC (.int 3202034522624059733))) (eBin oMul (eC (.int 2)) (eCall fAbs (aCons (eVar 3) aNil)))) (eCall fInt (aCons (eBin oLt (eVar 3) (eC (.int 0))) aNil))))
          (sSeq (sSet 2 (eBin oMod (eCall fInt (aCons (eVar 2) aNil)) (eC (.int 2305843009213693951)))) sPass))) sPass) (ms.map D.int)
        [some (.ptr 0), some (.int 0), some (.int (12752 + 41 * ((ns.map D.int).length : Int))), none] S1) p := by
    intro ms S1 chk hc hm hz p hp
    refine forM_inv (fun xs ρ S' => ∃ (ms : List Int) (great small : Int) (o : Option D), xs = ms.map D.int ∧ ρ = [some (.ptr 0), some (.int great), some (.int small), o] ∧ S' = S1 ∧ bits great ≤ 1048576 + 8 * (63 - ms.length) ∧ 0 ≤ small ∧ small < 2 ^ 61 ∧ ms.length ≤ 63 ∧ ∀ z ∈ ms, bits z ≤ 1048576) ?_ ?_ _ _ _
      ⟨ms, 0, _, none, rfl, rfl, rfl, ?_, ?_, ?_, hm, hz⟩
    · rintro x xs ρ S' ⟨ms, great, small, o, e, rfl, rfl, h1, h2, h3, h4, h5⟩
      cases ms with
      | nil => cases e
      | cons z ms =>
        rw [List.map_cons] at e
        cases e
        have hz := h5 z List.mem_cons_self
        rw [List.length_cons] at h1 h4
        simp only [Ok_ok, Ok_bind, Ok_tOf, Ok_tNot, Ok_tAnd, Ok_tOr, Ok_eIf, Ok_andV, Ok_orV, Ok_notV, Ok_chain, Ok_addI, Ok_subI, Ok_mulI, Ok_modI, Ok_divI, Ok_powI, Ok_ltI, Ok_leI, Ok_gtI, Ok_geI, Ok_addT, Ok_intI, Ok_intB, Ok_boolI, Ok_abs, Ok_lenT, Ok_tupleT, Ok_listT, Ok_ixT, Ok_slT, Ok_revT, Ok_dict0, Ok_dict1C, Ok_iAny, Ok_rngM1, Ok_rngM2, OkS_asgSub, Ok_neS, Ok_eqS, OkS_seq, OkS_pass, OkS_ret, OkS_retN, OkS_drop, OkS_set, OkS_par, OkS_if, Ok_nil, Ok_cons, Ok_bin, Ok_eC, Ok_call, Ok_fn1, Ok_fnK, Ok_tup, Ok_lst, Ok_isi, Ok_sl, Ok_pNone, Ok_pSome, Ok_neg, Ok_rev, Ok_rg1, OkS_for, Ok_comp, Ok_var, Ok_body, List.map_cons, List.map_nil, List.replicate_succ, List.replicate_zero, List.length_cons, List.length_nil, Nat.reduceSub, Nat.reduceAdd, List.cons_append, List.nil_append, List.getElem?_cons_succ, List.getElem?_cons_zero, List.set_cons_succ, List.set_cons_zero, Option.some.injEq, exists_eq_left', exists_eq_left, D.bl.injEq, D.int.injEq, List.cons.injEq, true_and, and_true, pickL, wipeE, List.map, Ok_if, ex2]
        refine ⟨⟨by decide, by decide, by decide⟩, ?_⟩
        have p18 : (10 : Int) ^ Int.toNat 18 = 1000000000000000000 := by decide
        rw [p18]
        have b47 : bits 47 ≤ 6 := by decide +kernel
        have b18 : bits 1000000000000000000 ≤ 64 := bits64 (by decide) (by decide)
        by_cases h : 1000000000000000000 ≤ z
        · rw [if_pos (by simpa using h)]
          have q3 := step_bits h1 (Nat.le_add_right _ _) hz
          refine ⟨mul_ok h1 b47 ?_, ⟨by decide, by decide, by decide⟩, hc, ms, great * 47 + z - 1000000000000000000, small, some (.int z), rfl, ⟨rfl, rfl, rfl⟩, Nat.le_trans q3 ?_, h2, h3, ?_, fun y hy => h5 y (List.mem_cons_of_mem _ hy)⟩
          · exact qa h4
          · exact qb h4
          · exact qc h4
        · rw [if_neg (by simpa using h)]
          have bs : bits small ≤ 64 := bits64 (by omega) (by omega)
          have bk : bits 3202034522624059733 ≤ 64 := bits64 (by decide) (by decide)
          have b2 : bits 2 ≤ 64 := bits64 (by decide) (by decide)
          have ba : bits (if z < 0 then -z else z) ≤ 1048576 := by
            split
            · exact intBits_neg_le hz
            · exact hz
          refine ⟨mul_ok bs bk (by decide), mul_ok b2 ba (by decide), by decide, hc, ms, great, _, some (.int z), rfl, ⟨rfl, rfl, rfl⟩, Nat.le_trans h1 ?_, Int.emod_nonneg _ (by decide), ?_, ?_, fun y hy => h5 y (List.mem_cons_of_mem _ hy)⟩
          · exact qd h4
          · exact Int.lt_trans (Int.emod_lt_of_pos _ (by decide)) (by decide)
          · exact qc h4
    · rintro ρ S' ⟨ms, great, small, o, e, rfl, rfl, h1, h2, h3, h4, h5⟩
      exact hp great small o (Nat.le_trans h1 qe) h2 h3
    · rw [show bits 0 = 0 by decide]; exact Nat.zero_le _
    · exact qf _
    · rw [List.length_map]; exact qg hl
  rw [OkS_for, Ok_iAny]
  simp only [Ok_ok, Ok_bind, Ok_tOf, Ok_tNot, Ok_tAnd, Ok_tOr, Ok_eIf, Ok_andV, Ok_orV, Ok_notV, Ok_chain, Ok_addI, Ok_subI, Ok_mulI, Ok_modI, Ok_divI, Ok_powI, Ok_ltI, Ok_leI, Ok_gtI, Ok_geI, Ok_addT, Ok_intI, Ok_intB, Ok_boolI, Ok_abs, Ok_lenT, Ok_tupleT, Ok_listT, Ok_ixT, Ok_slT, Ok_revT, Ok_dict0, Ok_dict1C, Ok_iAny, Ok_rngM1, Ok_rngM2, OkS_asgSub, Ok_neS, Ok_eqS, OkS_seq, OkS_pass, OkS_ret, OkS_retN, OkS_drop, OkS_set, OkS_par, OkS_if, Ok_nil, Ok_cons, Ok_bin, Ok_eC, Ok_call, Ok_fn1, Ok_fnK, Ok_tup, Ok_lst, Ok_isi, Ok_sl, Ok_pNone, Ok_pSome, Ok_neg, Ok_rev, Ok_rg1, Ok_comp, Ok_var, Ok_body, List.map_cons, List.map_nil, List.replicate_succ, List.replicate_zero, List.length_cons, List.length_nil, Nat.reduceSub, Nat.reduceAdd, List.cons_append, List.nil_append, List.getElem?_cons_succ, List.getElem?_cons_zero, List.set_cons_succ, List.set_cons_zero, Option.some.injEq, exists_eq_left', exists_eq_left, D.bl.injEq, D.int.injEq, List.cons.injEq, true_and, and_true, pickL, wipeE, List.map, Ok_if, ex2]
  rw [Ok_slL (.inr rfl)]
  obtain ⟨k, e1, e2⟩ := cut63 (ns.map D.int)
  rw [e1] at *
  refine ⟨_, ⟨_, .inl ⟨get_last _ _, rfl⟩⟩, get_last _ _, ?_⟩
  rw [← List.map_take] at *
  refine fin _ _ _ (get_last _ _) (by rw [List.length_map] at e2; exact e2) (fun z hz => hb z (List.mem_of_mem_take hz)) _ fun great small o h1 h2 h3 => ?_
  simp only [Ok_ok, Ok_bind, Ok_tOf, Ok_tNot, Ok_tAnd, Ok_tOr, Ok_eIf, Ok_andV, Ok_orV, Ok_notV, Ok_chain, Ok_addI, Ok_subI, Ok_mulI, Ok_modI, Ok_divI, Ok_powI, Ok_ltI, Ok_leI, Ok_gtI, Ok_geI, Ok_addT, Ok_intI, Ok_intB, Ok_boolI, Ok_abs, Ok_lenT, Ok_tupleT, Ok_listT, Ok_ixT, Ok_slT, Ok_revT, Ok_dict0, Ok_dict1C, Ok_iAny, Ok_rngM1, Ok_rngM2, OkS_asgSub, Ok_neS, Ok_eqS, OkS_seq, OkS_pass, OkS_ret, OkS_retN, OkS_drop, OkS_set, OkS_par, OkS_if, Ok_nil, Ok_cons, Ok_bin, Ok_eC, Ok_call, Ok_fn1, Ok_fnK, Ok_tup, Ok_lst, Ok_isi, Ok_sl, Ok_pNone, Ok_pSome, Ok_neg, Ok_rev, Ok_rg1, Ok_comp, Ok_var, Ok_body, List.map_cons, List.map_nil, List.replicate_succ, List.replicate_zero, List.length_cons, List.length_nil, Nat.reduceSub, Nat.reduceAdd, List.cons_append, List.nil_append, List.getElem?_cons_succ, List.getElem?_cons_zero, List.set_cons_succ, List.set_cons_zero, Option.some.injEq, exists_eq_left', exists_eq_left, D.bl.injEq, D.int.injEq, List.cons.injEq, true_and, and_true, pickL, wipeE, List.map, Ok_if, ex2]
  exact ⟨by decide, hP _ _ (by simp) ⟨great, small, 0, rfl, h1, h2, h3, by decide, by decide⟩⟩

/-! ### values that the law shows -/
def AtomD : D → Prop
  | .non => True
  | .bl _ => True
  | .int i => i.natAbs < 2 ^ 40
  | .str s => s = "1"
  | _ => False
def flD : D → PyData
  | .non => .none
  | .bl b => .bool b
  | .int i => .int i
  | .str s => .str s
  | _ => .none
structure At (p : PyData) : Prop where
  sh : p.showable = true
  lv : p.leavesShort 100 = true
  dp : p.depth = 0
  wt : p.weight ≤ 50
theorem at_int {i : Int} (h : i.natAbs < 2 ^ 40) : At (.int i) := by
  have hl : i.natAbs.log2 ≤ 40 := by
    by_cases h0 : i.natAbs = 0
    · rw [h0]; decide
    · exact Nat.le_of_lt ((Nat.log2_lt h0).mpr h)
  refine ⟨?_, ?_, rfl, ?_⟩
  · simp only [PyData.showable, decide_eq_true_eq]; omega
  · simp only [PyData.leavesShort, decide_eq_true_eq]
    have := PySem.int_text_length_le10 (a := i) (k := 13) (by decide) (Nat.lt_trans h (by decide))
    show (Str.ofString (toString i)).length ≤ 100
    rw [PySem.ofString_length]
    omega
  · simp only [PyData.weight]
    split <;> omega
theorem atom_at {d : D} (h : AtomD d) : At (flD d) := by
  cases d with
  | non => exact ⟨rfl, rfl, rfl, by decide⟩
  | bl b => exact ⟨rfl, rfl, rfl, by show 0 ≤ 50; decide⟩
  | int i => exact at_int h
  | str s =>
    have h : s = "1" := h
    subst h
    exact ⟨rfl, by decide +kernel, rfl, by decide +kernel⟩
  | tup _ => exact h.elim
  | ptr _ => exact h.elim
theorem atom_deep {d : D} (h : AtomD d) (S : Store) (k : Nat) : deep S (k + 1) d = some (flD d) := by
  cases d with
  | tup _ => exact h.elim
  | ptr _ => exact h.elim
  | _ => unfold deep; rfl
theorem ats_of : ∀ {ps : List PyData}, (∀ p ∈ ps, At p) → PyData.showableAll ps = true ∧ PyData.leavesShortAll 100 ps = true ∧ PyData.depthAll ps = 0 ∧ PyData.weightAll ps ≤ 51 * ps.length
  | [], _ => ⟨rfl, rfl, rfl, Nat.zero_le _⟩
  | p :: ps, h => by
    obtain ⟨a, b, c, d⟩ := ats_of fun q hq => h q (List.mem_cons_of_mem _ hq)
    have hp := h p List.mem_cons_self
    unfold PyData.showableAll PyData.leavesShortAll PyData.depthAll PyData.weightAll
    rw [a, b, c, hp.sh, hp.lv, hp.dp, List.length_cons]
    exact ⟨rfl, rfl, rfl, by have := hp.wt; omega⟩
theorem tame_tup {ps : List PyData} (h : ∀ p ∈ ps, At p) (hl : ps.length ≤ 100) : Tame (.tuple ps) := by
  obtain ⟨a, b, c, d⟩ := ats_of h
  refine ⟨?_, ?_, ?_, ?_⟩
  · unfold PyData.showable; exact a
  · unfold PyData.leavesShort; exact b
  · unfold PyData.depth; rw [c]; decide
  · unfold PyData.weight; omega
theorem tame_lst {ps : List PyData} (h : ∀ p ∈ ps, At p) (hl : ps.length ≤ 100) : Tame (.list ps) := by
  obtain ⟨a, b, c, d⟩ := ats_of h
  refine ⟨?_, ?_, ?_, ?_⟩
  · unfold PyData.showable; exact a
  · unfold PyData.leavesShort; exact b
  · unfold PyData.depth; rw [c]; decide
  · unfold PyData.weight; omega
def Vl (p : Nat → Prop) (S : Store) (d : D) : Prop := ∃ q, Tame q ∧ ((∀ S', deep S' deepLine d = some q) ∨ ∃ n, d = .ptr n ∧ ¬ p n ∧ n < S.length ∧ ∀ S' : Store, S'[n]? = S[n]? → deep S' deepLine d = some q)
theorem Vl.mono {p : Nat → Prop} {S S' : Store} {d : D} (h : Vl p S d) (g : Gr p S S') : Vl p S' d := by
  obtain ⟨q, t, h | ⟨n, rfl, np, nl, h⟩⟩ := h
  · exact ⟨q, t, .inl h⟩
  · exact ⟨q, t, .inr ⟨n, rfl, np, Nat.lt_of_lt_of_le nl g.len, fun S2 e => h S2 (e.trans (g.same n nl np))⟩⟩
theorem Vl.deep {p : Nat → Prop} {S : Store} {d : D} (h : Vl p S d) : ∃ q, Tame q ∧ RL.deep S deepLine d = some q := by
  obtain ⟨q, t, h | ⟨n, rfl, np, nl, h⟩⟩ := h
  · exact ⟨q, t, h S⟩
  · exact ⟨q, t, h S rfl⟩
theorem mapO_mem {α β : Type} {f : α → Option β} : ∀ {l : List α} {r : List β}, mapO f l = some r → ∀ x ∈ l, ∃ y, f x = some y
  | [], _, _, x, hx => by cases hx
  | a :: l, r, h, x, hx => by
    obtain ⟨y, ys, h1, h2, _⟩ := mapO_cons h
    rcases List.mem_cons.mp hx with rfl | hx
    · exact ⟨y, h1⟩
    · exact mapO_mem h2 x hx
theorem mapO_length {α β : Type} {f : α → Option β} : ∀ {l : List α} {r : List β}, mapO f l = some r → r.length = l.length
  | [], r, h => by unfold mapO at h; cases h; rfl
  | a :: l, r, h => by
    obtain ⟨y, ys, h1, h2, rfl⟩ := mapO_cons h
    rw [List.length_cons, List.length_cons, mapO_length h2]
theorem weight_len : ∀ ps : List PyData, ps.length ≤ PyData.weightAll ps
  | [] => Nat.le_refl _
  | p :: ps => by
    have := weight_len ps
    unfold PyData.weightAll
    rw [List.length_cons]; omega
theorem Vl.kn {p : Nat → Prop} {S : Store} {d : D} (h : Vl p S d) : Kn S d ∧ ∀ ds, d = .tup ds → ds.length ≤ 50000 := by
  obtain ⟨q, t, h | ⟨n, rfl, np, nl, h⟩⟩ := h
  · refine ⟨⟨?_, ?_⟩, ?_⟩
    · cases d with
      | ptr n => have := h []; unfold RL.deep at this; simp [deepLine] at this
      | _ => exact ⟨_, rfl⟩
    · rintro ds rfl x hx S'
      have e := h []
      unfold deepLine RL.deep at e
      cases hm : mapO (RL.deep [] 39) ds with
      | none => rw [hm] at e; cases e
      | some ps =>
        obtain ⟨y, hy⟩ := mapO_mem hm x hx
        cases x with
        | ptr n => unfold RL.deep at hy; simp at hy
        | _ => exact ⟨_, rfl⟩
    · rintro ds rfl
      have e := h []
      unfold deepLine RL.deep at e
      cases hm : mapO (RL.deep [] 39) ds with
      | none => rw [hm] at e; cases e
      | some ps =>
        rw [hm] at e
        cases e
        have := t.wt
        unfold PyData.weight at this
        rw [← mapO_length hm]
        exact Nat.le_trans (weight_len ps) this
  · refine ⟨⟨?_, fun ds e => by cases e⟩, fun ds e => by cases e⟩
    have : S[n]? = some S[n] := List.getElem?_eq_getElem nl
    show ∃ k, kindC S[n]? = some k
    rw [this]
    cases S[n] <;> exact ⟨_, rfl⟩
theorem vl_tup {p : Nat → Prop} {S : Store} {ds : List D} (h : ∀ d ∈ ds, AtomD d) (hl : ds.length ≤ 100) : Vl p S (.tup ds) := by
  refine ⟨.tuple (ds.map flD), tame_tup (fun q hq => ?_) (by rw [List.length_map]; exact hl), .inl fun S' => ?_⟩
  · obtain ⟨d, hd, rfl⟩ := List.mem_map.mp hq
    exact atom_at (h d hd)
  · unfold deepLine RL.deep
    have := mapO_map (f := RL.deep S' 39) (g := id) (h := flD) (l := ds) fun x hx => atom_deep (h x hx) S' 38
    rw [List.map_id] at this
    rw [this]; rfl
theorem vl_lst {p : Nat → Prop} {n : Nat} {S : Store} {ds : List D} (h : ∀ d ∈ ds, AtomD d) (hl : ds.length ≤ 100) (hS : S[n]? = some (.lst ds)) (hn : ¬ p n) : Vl p S (.ptr n) := by
  refine ⟨.list (ds.map flD), tame_lst (fun q hq => ?_) (by rw [List.length_map]; exact hl), .inr ⟨n, rfl, hn, lt_of_get hS, fun S' e => ?_⟩⟩
  · obtain ⟨d, hd, rfl⟩ := List.mem_map.mp hq
    exact atom_at (h d hd)
  · unfold deepLine RL.deep
    rw [e, hS]
    have := mapO_map (f := RL.deep S' 39) (g := id) (h := flD) (l := ds) fun x hx => atom_deep (h x hx) S' 38
    rw [List.map_id] at this
    simp only
    rw [this]; rfl

theorem vl_of {p : Nat → Prop} {S : Store} {d : D} (q : PyData) (h : ∀ S', RL.deep S' deepLine d = some q) (t : Tame q) : Vl p S d := ⟨q, t, .inl h⟩
theorem vl_at {p : Nat → Prop} {n : Nat} {S : Store} (q : PyData) (hS : n < S.length) (hn : ¬ p n) (h : ∀ S' : Store, S'[n]? = S[n]? → RL.deep S' deepLine (.ptr n) = some q) (t : Tame q) : Vl p S (.ptr n) := ⟨q, t, .inr ⟨n, rfl, hn, hS, h⟩⟩
theorem vl_dct {p : Nat → Prop} {n : Nat} {S : Store} {k : L2.Key} {i : Int} (hS : S[n]? = some (.dct [(k, .int i)])) (hn : ¬ p n) (t : Tame (.dict [(keyP k, .int i)])) : Vl p S (.ptr n) :=
  vl_at _ (lt_of_get hS) hn (fun S' e => by unfold deepLine RL.deep; rw [e, hS]; rfl) t
theorem vl_dct0 {p : Nat → Prop} {n : Nat} {S : Store} (hS : S[n]? = some (.dct [])) (hn : ¬ p n) : Vl p S (.ptr n) :=
  vl_at (.dict []) (lt_of_get hS) hn (fun S' e => by unfold deepLine RL.deep; rw [e, hS]; rfl) ⟨rfl, rfl, by decide, by decide⟩
theorem nf : ¬ False := fun z => z
abbrev ga (T : Store) {S : Store} {n : Nat} {c : Cell} (h : S[n]? = some c) : (S ++ T)[n]? = some c := (Gr.app (q := fun _ => False) T).get h nf
theorem DeckOk.gr {S S' : Store} {p : Nat} {t : Int} (h : DeckOk S p t) (g : Gr0 S S') : DeckOk S' p t := by
  obtain ⟨a, b, c, h, r⟩ := h
  exact ⟨a, b, c, g.get h nf, r⟩
theorem DeckOk.lt {S : Store} {p : Nat} {t : Int} (h : DeckOk S p t) : p < S.length := by
  obtain ⟨a, b, c, h, r⟩ := h
  exact lt_of_get h
theorem ok_odd {q : Nat → Prop} {S : Store} {p : Nat} {t : Int} {P : D → Store → Prop} (hq : ∀ n, S.length ≤ n → ¬ q n) (hpq : q p) (hd : DeckOk S p t) (ht : t < 2 ^ 60)
    (hP : ∀ S' d, Vl q S' d → DeckOk S' p (t + 1) → Gr (· = p) S S' → P d S') : Ok (f__law_odd [.ptr p] S) P := by
  have hp := hd.lt
  unfold f__law_odd b__law_odd
  simp only [Ok_ok, Ok_bind, Ok_tOf, Ok_tNot, Ok_tAnd, Ok_tOr, Ok_eIf, Ok_andV, Ok_orV, Ok_notV, Ok_chain, Ok_addI, Ok_subI, Ok_mulI, Ok_modI, Ok_divI, Ok_powI, Ok_ltI, Ok_leI, Ok_gtI, Ok_geI, Ok_addT, Ok_intI, Ok_intB, Ok_boolI, Ok_abs, Ok_lenT, Ok_tupleT, Ok_listT, Ok_ixT, Ok_slT, Ok_revT, Ok_dict0, Ok_dict1C, Ok_iAny, Ok_rngM1, Ok_rngM2, OkS_asgSub, Ok_neS, Ok_eqS, OkS_seq, OkS_pass, OkS_ret, OkS_retN, OkS_drop, OkS_set, OkS_par, OkS_if, Ok_nil, Ok_cons, Ok_bin, Ok_eC, Ok_call, Ok_fn1, Ok_fnK, Ok_tup, Ok_lst, Ok_isi, Ok_sl, Ok_pNone, Ok_pSome, Ok_neg, Ok_rev, Ok_rg1, Ok_comp, Ok_var, Ok_body, List.map_cons, List.map_nil, List.replicate_succ, List.replicate_zero, List.length_cons, List.length_nil, Nat.reduceSub, Nat.reduceAdd, List.cons_append, List.nil_append, List.getElem?_cons_succ, List.getElem?_cons_zero, List.set_cons_succ, List.set_cons_zero, Option.some.injEq, exists_eq_left', exists_eq_left, D.bl.injEq, D.int.injEq, List.cons.injEq, true_and, and_true, pickL, wipeE, List.map, Ok_if, ex2]
  repeat (refine ⟨by decide, ?_⟩)
  have g0 : Gr0 S (S ++ [Cell.lst [.int 0]] ++ [Cell.lst []] ++ [Cell.dct []]) := ((Gr.app _).trans (Gr.app _)).trans (Gr.app _)
  have h0 : (S ++ [Cell.lst [.int 0]] ++ [Cell.lst []] ++ [Cell.dct []])[S.length]? = some (.lst [.int 0]) := ga _ (ga _ (get_last _ _))
  have h1 : (S ++ [Cell.lst [.int 0]] ++ [Cell.lst []] ++ [Cell.dct []])[(S ++ [Cell.lst [.int 0]]).length]? = some (.lst []) := ga _ (get_last _ _)
  have h2 : (S ++ [Cell.lst [.int 0]] ++ [Cell.lst []] ++ [Cell.dct []])[(S ++ [Cell.lst [.int 0]] ++ [Cell.lst []]).length]? = some (.dct []) := get_last _ _
  have n0 : ¬ q S.length := hq _ (Nat.le_refl _)
  have n1 : ¬ q (S ++ [Cell.lst [.int 0]]).length := hq _ (by rw [List.length_append]; omega)
  have n2 : ¬ q (S ++ [Cell.lst [.int 0]] ++ [Cell.lst []]).length := hq _ (by rw [List.length_append, List.length_append]; omega)
  have hqT : ∀ n, (S ++ [Cell.lst [.int 0]] ++ [Cell.lst []] ++ [Cell.dct []]).length ≤ n → ¬ q n := fun n hn => hq n (by simp only [List.length_append] at hn; omega)
  generalize (S ++ [Cell.lst [.int 0]]).length = m1 at *
  generalize (S ++ [Cell.lst [.int 0]] ++ [Cell.lst []]).length = m2 at *
  generalize hT : S ++ [Cell.lst [.int 0]] ++ [Cell.lst []] ++ [Cell.dct []] = T at *
  generalize S.length = m0 at *
  have hpT : p < T.length := (hd.gr g0).lt
  rw [Ok_addL (ga _ (ga _ (get_last _ _))) (get_last _ _)]
  refine ⟨by show 30 ≤ sizeLine; decide, ?_⟩
  have n3 : T.length ≠ p := by omega
  refine ok_pick ((hd.gr g0).gr (((Gr.app _).trans (Gr.app _)).trans ((Gr.app _).trans (Gr.app _)))) ht (get_last _ _) (by simp only [List.length_append]; omega) (by simp) (by show 30 < 2 ^ 60; decide) fun S' d hmem hd' hl gr => ?_
  have grT : Gr (· = p) T S' := (((Gr.app _).trans (Gr.app _)).trans ((Gr.app _).trans (Gr.app _))).trans gr
  refine hP S' d ?_ hd' (g0.weak0.trans grT)
  have big : ∀ c, Vl q T c → Vl q S' c := fun c h => h.mono (grT.weak fun n e => e ▸ hpq)
  simp only [List.cons_append, List.nil_append, List.mem_cons, List.not_mem_nil, or_false] at hmem
  have tt : ∀ q : PyData, q.showable = true → q.leavesShort 100 = true → q.depth ≤ 12 → q.weight ≤ 50000 → Tame q := fun q a b c d => ⟨a, b, c, d⟩
  rcases hmem with rfl | rfl | rfl | rfl | rfl | rfl | rfl | rfl | rfl | rfl | rfl | rfl | rfl | rfl | rfl | rfl | rfl | rfl | rfl | rfl | rfl | rfl | rfl | rfl | rfl | rfl | rfl | rfl | rfl | rfl
  all_goals first
    | exact vl_of _ (fun _ => rfl) (tt _ (by decide +kernel) (by decide +kernel) (by decide +kernel) (by decide +kernel))
    | exact big _ (vl_lst (ds := [.int 0]) (by intro d hd; rw [List.mem_singleton.mp hd]; show (0 : Int).natAbs < 2 ^ 40; decide) (by decide) h0 n0)
    | exact big _ (vl_lst (ds := []) (by intro d hd; cases hd) (by decide) h1 n1)
    | exact big _ (vl_dct0 h2 n2)
    | skip
  have n4 : ∀ c : Cell, ¬ q (T ++ [c]).length := fun c => hqT _ (by rw [List.length_append]; omega)
  exact vl_dct (k := .inr (Str.ofString "0")) (i := 1) (gr.get (ga _ (ga _ (get_last _ _))) (fun e => n4 _ (e ▸ hpq))) (n4 _) (tt _ (by decide +kernel) (by decide +kernel) (by decide +kernel) (by decide +kernel))

def SmallG (l : List Int) : Prop := l.length ≤ 10 ∧ ∀ x ∈ l, x.natAbs < 2 ^ 40
theorem smallG_atoms {l : List Int} (h : SmallG l) : ∀ d ∈ l.map D.int, AtomD d := fun d hd => by
  obtain ⟨x, hx, rfl⟩ := List.mem_map.mp hd
  exact h.2 x hx
theorem ok_bent {q : Nat → Prop} {S : Store} {p : Nat} {t : Int} {l : List Int} {P : D → Store → Prop} (hq : ∀ n, S.length ≤ n → ¬ q n) (hpq : q p) (hd : DeckOk S p t) (ht : t < 2 ^ 59) (hl : SmallG l)
    (hP : ∀ S' d, Vl q S' d → DeckOk S' p (t + 2) → Gr (· = p) S S' → P d S') : Ok (f__law_bent_group [.ptr p, tupI l] S) P := by
  have hp := hd.lt
  have bg := big1000
  have hl1 := hl.1
  unfold f__law_bent_group b__law_bent_group tupI
  simp only [Ok_ok, Ok_bind, Ok_tOf, Ok_tNot, Ok_tAnd, Ok_tOr, Ok_eIf, Ok_andV, Ok_orV, Ok_notV, Ok_chain, Ok_addI, Ok_subI, Ok_mulI, Ok_modI, Ok_divI, Ok_powI, Ok_ltI, Ok_leI, Ok_gtI, Ok_geI, Ok_addT, Ok_intI, Ok_intB, Ok_boolI, Ok_abs, Ok_lenT, Ok_tupleT, Ok_listT, Ok_ixT, Ok_slT, Ok_revT, Ok_dict0, Ok_dict1C, Ok_iAny, Ok_rngM1, Ok_rngM2, OkS_asgSub, Ok_neS, Ok_eqS, OkS_seq, OkS_pass, OkS_ret, OkS_retN, OkS_drop, OkS_set, OkS_par, OkS_if, Ok_nil, Ok_cons, Ok_bin, Ok_eC, Ok_call, Ok_fn1, Ok_fnK, Ok_tup, Ok_lst, Ok_isi, Ok_sl, Ok_pNone, Ok_pSome, Ok_neg, Ok_rev, Ok_rg1, Ok_comp, Ok_var, Ok_body, List.replicate_succ, List.replicate_zero, List.length_cons, List.length_nil, Nat.reduceSub, Nat.reduceAdd, List.cons_append, List.nil_append, List.getElem?_cons_succ, List.getElem?_cons_zero, List.set_cons_succ, List.set_cons_zero, Option.some.injEq, exists_eq_left', exists_eq_left, D.bl.injEq, D.int.injEq, List.cons.injEq, true_and, and_true, pickL, wipeE, Ok_if, ex2, List.map_cons, List.map_nil]
  rw [List.length_map]
  repeat (refine ⟨by omega, ?_⟩)
  generalize hA : [D.tup (List.map D.int l), D.tup (List.map D.int l).reverse, D.tup (List.map D.int l ++ [D.int 0]), D.ptr S.length, D.tup (RL.cutD (List.map D.int l) (some 1) none), D.tup (List.map D.int l ++ [D.int 5]),
    D.tup (D.int (-1) :: List.map D.int l), D.tup (List.map D.int l ++ [D.bl true]), D.tup (List.map D.int l ++ [D.str (Str.ofString "1")])] = A
  have lenA : A.length = 9 := by rw [← hA]; rfl
  have n0 : ¬ q S.length := hq _ (Nat.le_refl _)
  have n1 : ¬ q (S ++ [Cell.lst (List.map D.int l)]).length := hq _ (by rw [List.length_append]; omega)
  have hqT : ∀ n, (S ++ [Cell.lst (List.map D.int l)] ++ [Cell.lst A]).length ≤ n → ¬ q n := fun n hn => hq n (by simp only [List.length_append] at hn; omega)
  have h0 : (S ++ [Cell.lst (List.map D.int l)] ++ [Cell.lst A])[S.length]? = some (.lst (l.map D.int)) := ga _ (get_last _ _)
  have h1 : (S ++ [Cell.lst (List.map D.int l)] ++ [Cell.lst A])[(S ++ [Cell.lst (List.map D.int l)]).length]? = some (.lst A) := get_last _ _
  have g0 : Gr0 S (S ++ [Cell.lst (List.map D.int l)] ++ [Cell.lst A]) := (Gr.app _).trans (Gr.app _)
  generalize (S ++ [Cell.lst (List.map D.int l)]).length = m1 at *
  generalize S ++ [Cell.lst (List.map D.int l)] ++ [Cell.lst A] = T at *
  generalize S.length = m0 at *
  refine (compT_fm (S0 := T) (fun _ => true) (fun d => match d with | .int x => if x < 2 then .bl (x != 0) else .int x | d => d) (fun _ => trivial) (l.map D.int) [] (by simp; omega) (fun x hm acc => ?_) (fun x hm _ acc => ?_)).mono ?_
  · exact ⟨rfl, rfl⟩
  · obtain ⟨z, hz, rfl⟩ := List.mem_map.mp hm
    simp only [Ok_ok, Ok_bind, Ok_tOf, Ok_tNot, Ok_tAnd, Ok_tOr, Ok_eIf, Ok_andV, Ok_orV, Ok_notV, Ok_chain, Ok_addI, Ok_subI, Ok_mulI, Ok_modI, Ok_divI, Ok_powI, Ok_ltI, Ok_leI, Ok_gtI, Ok_geI, Ok_addT, Ok_intI, Ok_intB, Ok_boolI, Ok_abs, Ok_lenT, Ok_tupleT, Ok_listT, Ok_ixT, Ok_slT, Ok_revT, Ok_dict0, Ok_dict1C, Ok_iAny, Ok_rngM1, Ok_rngM2, OkS_asgSub, Ok_neS, Ok_eqS, OkS_seq, OkS_pass, OkS_ret, OkS_retN, OkS_drop, OkS_set, OkS_par, OkS_if, Ok_nil, Ok_cons, Ok_bin, Ok_eC, Ok_call, Ok_fn1, Ok_fnK, Ok_tup, Ok_lst, Ok_isi, Ok_sl, Ok_pNone, Ok_pSome, Ok_neg, Ok_rev, Ok_rg1, Ok_comp, Ok_var, Ok_body, List.map_cons, List.map_nil, List.replicate_succ, List.replicate_zero, List.length_cons, List.length_nil, Nat.reduceSub, Nat.reduceAdd, List.cons_append, List.nil_append, List.getElem?_cons_succ, List.getElem?_cons_zero, List.set_cons_succ, List.set_cons_zero, Option.some.injEq, exists_eq_left', exists_eq_left, D.bl.injEq, D.int.injEq, List.cons.injEq, true_and, and_true, pickL, wipeE, List.map, Ok_if, ex2]
    by_cases h : z < 2
    · rw [if_pos (by simpa using h)]
      simp only [h, if_true]
    · rw [if_neg (by simpa using h)]
      simp only [h, if_false]
  rintro _ S2 rfl
  rw [List.nil_append, List.filter_eq_self.mpr (fun _ _ => rfl)]
  have atB : ∀ d ∈ (l.map D.int).map (fun d => match d with | .int x => if x < 2 then D.bl (x != 0) else .int x | d => d), AtomD d := fun d hd => by
    rw [List.map_map] at hd
    obtain ⟨x, hx, rfl⟩ := List.mem_map.mp hd
    show AtomD (if x < 2 then D.bl (x != 0) else .int x)
    split
    · exact trivial
    · exact hl.2 x hx
  have lenB : ((l.map D.int).map (fun d => match d with | .int x => if x < 2 then D.bl (x != 0) else .int x | d => d)).length = l.length := by rw [List.length_map, List.length_map]
  generalize (l.map D.int).map (fun d => match d with | .int x => if x < 2 then D.bl (x != 0) else .int x | d => d) = B at *
  rw [Ok_tupleL (.inl (get_last _ _))]
  refine ok_odd (q := q) (fun n hn => hqT n (by simp only [List.length_append] at hn ⊢; omega)) hpq (hd.gr (g0.trans (Gr.app _))) (by omega) fun S3 d3 v3 hd3 g3 => ?_
  have h0' := g3.get (ga [Cell.lst B] h0) (fun e => n0 (e ▸ hpq))
  have h1' := g3.get (ga [Cell.lst B] h1) (fun e => n1 (e ▸ hpq))
  have gS3 : Gr (· = p) S S3 := (g0.trans (Gr.app _)).weak0.trans g3
  refine ⟨by decide, ?_⟩
  rw [Ok_addL (ga _ h1') (get_last _ _)]
  refine ⟨by rw [lenA]; show 9 + 4 ≤ sizeLine; decide, ?_⟩
  have p3 : p < S3.length := hd3.lt
  refine ok_pick (hd3.gr ((Gr.app _).trans (Gr.app _))) (by omega) (get_last _ _) (by simp only [List.length_append]; omega) (by simp) (by rw [List.length_append, lenA]; show 9 + 4 < 2 ^ 60; decide) fun S4 d hmem hd4 hl4 g4 => ?_
  have g34 : Gr (· = p) S3 S4 := ((Gr.app _).trans (Gr.app _)).trans g4
  rw [show t + 1 + 1 = t + 2 by omega] at hd4
  refine hP S4 d ?_ hd4 (gS3.trans g34)
  have g34q : Gr q S3 S4 := g34.weak fun n e => e ▸ hpq
  have at_ := smallG_atoms hl
  have len : (l.map D.int).length ≤ 10 := by rw [List.length_map]; exact hl1
  have tupV : ∀ ds : List D, (∀ d ∈ ds, AtomD d) → ds.length ≤ 100 → Vl q S4 (.tup ds) := fun ds h1 h2 => vl_tup h1 h2
  have consV : ∀ x : D, AtomD x → Vl q S4 (.tup (x :: l.map D.int)) := fun x hx => tupV _ (fun d hd => by
    rcases List.mem_cons.mp hd with rfl | hd
    · exact hx
    · exact at_ d hd) (by rw [List.length_cons]; omega)
  have snocV : ∀ x : D, AtomD x → Vl q S4 (.tup (l.map D.int ++ [x])) := fun x hx => tupV _ (fun d hd => by
    rcases List.mem_append.mp hd with hd | hd
    · exact at_ d hd
    · rw [List.mem_singleton.mp hd]; exact hx) (by rw [List.length_append, List.length_singleton]; omega)
  have atI_ : ∀ i : Int, i.natAbs < 2 ^ 40 → AtomD (.int i) := fun i h => h
  rcases List.mem_append.mp hmem with hm | hm
  · rw [← hA] at hm
    simp only [List.mem_cons, List.not_mem_nil, or_false] at hm
    rcases hm with rfl | rfl | rfl | rfl | rfl | rfl | rfl | rfl | rfl
    · exact tupV _ at_ (by omega)
    · exact tupV _ (fun d hd => at_ d (List.mem_reverse.mp hd)) (by rw [List.length_reverse]; omega)
    · exact snocV _ (atI_ 0 (by decide))
    · exact (vl_lst at_ (by omega) h0' n0).mono g34q
    · refine tupV _ (fun d hd => at_ d ?_) ?_
      · unfold RL.cutD at hd
        exact List.mem_of_mem_drop (List.mem_of_mem_take hd)
      · unfold RL.cutD
        rw [List.length_take, List.length_drop]
        omega
    · exact snocV _ (atI_ 5 (by decide))
    · exact consV _ (atI_ (-1) (by decide))
    · exact snocV _ trivial
    · exact snocV _ rfl
  · simp only [List.mem_cons, List.not_mem_nil, or_false] at hm
    rcases hm with rfl | rfl | rfl | rfl
    · exact snocV _ trivial
    · exact consV _ trivial
    · exact tupV _ atB (by omega)
    · exact v3.mono g34q

/-! ### what the parts are -/
theorem goG_len : ∀ (rs : List Int) (found : List (List Int)), (goG found rs).length = found.length * 2 ^ rs.length
  | [], found => by show found.length = found.length * 1; omega
  | n :: rs, found => by
    show (goG (found ++ found.map (· ++ [n])) rs).length = _
    rw [goG_len rs, List.length_append, List.length_map, List.length_cons, Nat.pow_succ, ← Nat.mul_two, Nat.mul_assoc, Nat.mul_comm 2]
theorem goG_mem (m : Nat) (R : Int → Prop) : ∀ (rs : List Int) (found : List (List Int)), (∀ l ∈ found, l.length + rs.length ≤ m ∧ ∀ x ∈ l, R x) → (∀ x ∈ rs, R x) → ∀ l ∈ goG found rs, l.length ≤ m ∧ ∀ x ∈ l, R x
  | [], found, h, _, l, hl => by
    have := h l hl
    exact ⟨by simpa using this.1, this.2⟩
  | n :: rs, found, h, hr, l, hl => by
    refine goG_mem m R rs (found ++ found.map (· ++ [n])) (fun l' hl' => ?_) (fun x hx => hr x (List.mem_cons_of_mem _ hx)) l hl
    rcases List.mem_append.mp hl' with h' | h'
    · have := h l' h'
      rw [List.length_cons] at this
      exact ⟨by omega, this.2⟩
    · obtain ⟨l2, h2, rfl⟩ := List.mem_map.mp h'
      have := h l2 h2
      rw [List.length_cons] at this
      refine ⟨by simp; omega, fun x hx => ?_⟩
      rcases List.mem_append.mp hx with hx | hx
      · exact this.2 x hx
      · rw [List.mem_singleton.mp hx]; exact hr n List.mem_cons_self
theorem partsI_len (ns : List Int) : (partsI ns).length = 2 ^ ns.length := by
  unfold partsI sortI
  rw [List.length_mergeSort, goG_len]
  show 1 * 2 ^ ns.length = _
  rw [Nat.one_mul]
theorem partsI_mem {ns l : List Int} (h : l ∈ partsI ns) : l.length ≤ ns.length ∧ ∀ x ∈ l, x ∈ ns := by
  unfold partsI sortI at h
  refine goG_mem ns.length (fun x => x ∈ ns) ns [[]] (fun l' hl' => ?_) (fun x hx => hx) l (List.mem_mergeSort.mp h)
  rw [List.mem_singleton.mp hl']
  exact ⟨by simp, fun x hx => by cases hx⟩
def SmallP (ns : List Int) : Prop := ns.length ≤ 5 ∧ ∀ x ∈ ns, x.natAbs < 2 ^ 40
theorem SmallP.mem {ns l : List Int} (h : SmallP ns) (hl : l ∈ partsI ns) : SmallP l := ⟨Nat.le_trans (partsI_mem hl).1 h.1, fun x hx => h.2 x ((partsI_mem hl).2 x hx)⟩
theorem SmallP.g {l : List Int} (h : SmallP l) : SmallG l := ⟨Nat.le_trans h.1 (by decide), h.2⟩
theorem upto_small {h : Nat} (hh : h ≤ 5) : SmallP (upto h) := ⟨by rw [upto_len]; exact hh, fun x hx => by
  unfold upto at hx
  obtain ⟨i, hi, rfl⟩ := List.mem_map.mp hx
  have := List.mem_range.mp hi
  have : i < 2 ^ 40 := Nat.lt_of_lt_of_le this (Nat.le_trans hh (by decide))
  simpa using this⟩
/-- all of a list of data within bounds -/
structure In (k w : Nat) (p : PyData) : Prop where
  sh : p.showable = true
  lv : p.leavesShort 100 = true
  dp : p.depth ≤ k
  wt : p.weight ≤ w
theorem ins_of {k w : Nat} : ∀ {ps : List PyData}, (∀ p ∈ ps, In k w p) → PyData.showableAll ps = true ∧ PyData.leavesShortAll 100 ps = true ∧ PyData.depthAll ps ≤ k ∧ PyData.weightAll ps ≤ (w + 1) * ps.length
  | [], _ => ⟨rfl, rfl, Nat.zero_le _, Nat.zero_le _⟩
  | p :: ps, h => by
    obtain ⟨a, b, c, d⟩ := ins_of fun q hq => h q (List.mem_cons_of_mem _ hq)
    have hp := h p List.mem_cons_self
    unfold PyData.showableAll PyData.leavesShortAll PyData.depthAll PyData.weightAll
    rw [a, b, hp.sh, hp.lv, List.length_cons, Nat.mul_succ]
    exact ⟨rfl, rfl, Nat.max_le.mpr ⟨hp.dp, c⟩, by have := hp.wt; omega⟩
theorem in_tup {k w n : Nat} {ps : List PyData} (h : ∀ p ∈ ps, In k w p) (hl : ps.length ≤ n) : In (k + 1) ((w + 1) * n) (.tuple ps) := by
  obtain ⟨a, b, c, d⟩ := ins_of h
  refine ⟨?_, ?_, ?_, ?_⟩
  · unfold PyData.showable; exact a
  · unfold PyData.leavesShort; exact b
  · unfold PyData.depth; omega
  · unfold PyData.weight; exact Nat.le_trans d (Nat.mul_le_mul_left _ hl)
theorem in_lst {k w n : Nat} {ps : List PyData} (h : ∀ p ∈ ps, In k w p) (hl : ps.length ≤ n) : In (k + 1) ((w + 1) * n) (.list ps) := by
  obtain ⟨a, b, c, d⟩ := ins_of h
  refine ⟨?_, ?_, ?_, ?_⟩
  · unfold PyData.showable; exact a
  · unfold PyData.leavesShort; exact b
  · unfold PyData.depth; omega
  · unfold PyData.weight; exact Nat.le_trans d (Nat.mul_le_mul_left _ hl)
theorem In.weak {k w k' w' : Nat} {p : PyData} (h : In k w p) (h1 : k ≤ k') (h2 : w ≤ w') : In k' w' p := ⟨h.sh, h.lv, Nat.le_trans h.dp h1, Nat.le_trans h.wt h2⟩
theorem in_int {i : Int} (h : i.natAbs < 2 ^ 40) : In 0 50 (.int i) := ⟨(at_int h).sh, (at_int h).lv, Nat.le_of_eq (at_int h).dp, (at_int h).wt⟩
def qT (ls : List (List Int)) : PyData := .tuple (ls.map fun l => .tuple (l.map PyData.int))
theorem deep_qT (S : Store) (k : Nat) (ls : List (List Int)) : deep S (k + 3) (.tup (ls.map tupI)) = some (qT ls) := by
  unfold deep
  rw [deep_tupsO]; rfl
theorem in_qT {ns : List Int} (h : SmallP ns) : In 2 8192 (qT (partsI ns)) := by
  have : In 2 ((255 + 1) * 32) (qT (partsI ns)) := by
    refine in_tup (fun p hp => ?_) (by rw [List.length_map, partsI_len]; exact Nat.le_trans (Nat.pow_le_pow_right (by decide) h.1) (by decide))
    obtain ⟨l, hl, rfl⟩ := List.mem_map.mp hp
    have sl := h.mem hl
    have : In 1 ((50 + 1) * 5) (.tuple (l.map PyData.int)) := by
      refine in_tup (fun p hp => ?_) (by rw [List.length_map]; exact sl.1)
      obtain ⟨x, hx, rfl⟩ := List.mem_map.mp hp
      exact in_int (sl.2 x hx)
    exact this.weak (by decide) (by decide)
  exact this.weak (by decide) (by decide)
theorem deep_list {S : Store} {n k : Nat} {ds : List D} {ps : List PyData} (h : S[n]? = some (.lst ds)) (e : mapO (deep S k) ds = some ps) : deep S (k + 1) (.ptr n) = some (.list ps) := by
  unfold deep; rw [h]; simp only; rw [e]; rfl
theorem In.tame {k w : Nat} {p : PyData} (h : In k w p) (h1 : k ≤ 12) (h2 : w ≤ 50000) : Tame p := ⟨h.sh, h.lv, Nat.le_trans h.dp h1, Nat.le_trans h.wt h2⟩
theorem ok_law_group {S : Store} {p : Nat} {t : Int} {h : Nat} {P : D → Store → Prop} (hd : DeckOk S p t) (ht : t < 2 ^ 60) (hh : h ≤ 5)
    (hP : ∀ S' l, l ∈ partsI (upto h) → DeckOk S' p (t + 1) → Gr (· = p) S S' → P (tupI l) S') : Ok (f__law_group [.ptr p, .int h] S) P := by
  unfold f__law_group b__law_group
  simp only [Ok_ok, Ok_bind, Ok_tOf, Ok_tNot, Ok_tAnd, Ok_tOr, Ok_eIf, Ok_andV, Ok_orV, Ok_notV, Ok_chain, Ok_addI, Ok_subI, Ok_mulI, Ok_modI, Ok_divI, Ok_powI, Ok_ltI, Ok_leI, Ok_gtI, Ok_geI, Ok_addT, Ok_intI, Ok_intB, Ok_boolI, Ok_abs, Ok_lenT, Ok_tupleT, Ok_listT, Ok_ixT, Ok_slT, Ok_revT, Ok_dict0, Ok_dict1C, Ok_iAny, Ok_rngM1, Ok_rngM2, OkS_asgSub, Ok_neS, Ok_eqS, OkS_seq, OkS_pass, OkS_ret, OkS_retN, OkS_drop, OkS_set, OkS_par, OkS_if, Ok_nil, Ok_cons, Ok_bin, Ok_eC, Ok_call, Ok_fn1, Ok_fnK, Ok_tup, Ok_lst, Ok_isi, Ok_sl, Ok_pNone, Ok_pSome, Ok_neg, Ok_rev, Ok_rg1, Ok_comp, Ok_var, Ok_body, List.map_cons, List.map_nil, List.replicate_succ, List.replicate_zero, List.length_cons, List.length_nil, Nat.reduceSub, Nat.reduceAdd, List.cons_append, List.nil_append, List.getElem?_cons_succ, List.getElem?_cons_zero, List.set_cons_succ, List.set_cons_zero, Option.some.injEq, exists_eq_left', exists_eq_left, D.bl.injEq, D.int.injEq, List.cons.injEq, true_and, and_true, pickL, wipeE, List.map, Ok_if, ex2]
  refine ok_law_groups (by omega) fun S1 n g1 hn h1 => ?_
  have hp := hd.lt
  have hlen := partsI_len (upto h)
  have h32 : (2 : Nat) ^ (upto h).length ≤ 32 := by rw [upto_len]; exact Nat.le_trans (Nat.pow_le_pow_right (by decide) hh) (by decide)
  refine ok_pick (hd.gr g1) ht h1 (by omega) ?_ (by rw [List.length_map]; omega) fun S2 d hm hd2 _ g2 => ?_
  · intro e
    have := congrArg List.length e
    rw [List.length_map, hlen] at this
    have pos : 0 < 2 ^ (upto h).length := Nat.two_pow_pos _
    simp at this
  · obtain ⟨l, hl, rfl⟩ := List.mem_map.mp hm
    exact hP S2 l hl hd2 (g1.weak0.trans g2)
theorem atD_last {xs : List D} (h : xs ≠ []) : ∃ d ∈ xs, atD xs (-1) = some d := by
  have pos := List.length_pos_iff.mpr h
  refine ⟨xs[xs.length - 1], List.getElem_mem _, ?_⟩
  unfold atD atI ixN
  rw [if_neg (by decide), if_pos (by omega)]
  show xs[((-1 : Int) + xs.length).toNat]? = _
  rw [show ((-1 : Int) + xs.length).toNat = xs.length - 1 by omega]
  exact List.getElem?_eq_getElem _

theorem mapO_two {S : Store} {k : Nat} {a b : D} {x y : PyData} (h1 : deep S k a = some x) (h2 : deep S k b = some y) : mapO (deep S k) [a, b] = some [x, y] := by
  simp only [mapO, h1, h2]
theorem Vl.all {q : Nat → Prop} {S : Store} {d : D} (h : Vl q S d) : ∃ p, Tame p ∧ ∀ S', Gr0 S S' → RL.deep S' deepLine d = some p := by
  obtain ⟨p, t, h | ⟨n, rfl, np, nl, h⟩⟩ := h
  · exact ⟨p, t, fun S' _ => h S'⟩
  · exact ⟨p, t, fun S' g => h S' (g.same n nl nf)⟩
theorem DeckOk.put {S : Store} {p m : Nat} {t : Int} {c : Cell} (h : DeckOk S p t) (hm : m ≠ p) : DeckOk (S.set m c) p t := by
  obtain ⟨a, b, c', h, r⟩ := h
  exact ⟨a, b, c', by rw [List.getElem?_set_ne hm]; exact h, r⟩
theorem tame_bools (a b : Bool) : Tame (.list [.bool a, .bool b]) := by
  cases a <;> cases b <;> exact ⟨by decide, by decide, by decide, by decide⟩
theorem deep_bools {S : Store} {n : Nat} {a b : Bool} (h : S[n]? = some (.lst [.bl a, .bl b])) : RL.deep S deepLine (.ptr n) = some (.list [.bool a, .bool b]) := deep_list (k := 39) h (mapO_two rfl rfl)
theorem partsI_nil : partsI [] = [[]] := by
  unfold partsI sortI goG
  simp
theorem mapO_three {S : Store} {k : Nat} {a b c : D} {x y z : PyData} (h1 : deep S k a = some x) (h2 : deep S k b = some y) (h3 : deep S k c = some z) : mapO (deep S k) [a, b, c] = some [x, y, z] := by
  simp only [mapO, h1, h2, h3]
theorem tame_two {a b : PyData} {w : Nat} (h1 : In 2 w a) (h2 : In 2 w b) (hw : w ≤ 10000) : Tame (.list [a, b]) := (in_lst (ps := [a, b]) (n := 2) (k := 2) (w := w) (fun p hp => by
  rcases List.mem_cons.mp hp with rfl | hp
  · exact h1
  · rw [List.mem_singleton.mp hp]; exact h2) (Nat.le_refl 2)).tame (by decide) (by omega)
theorem tame_three {a b c : PyData} {w : Nat} (h1 : In 2 w a) (h2 : In 2 w b) (h3 : In 2 w c) (hw : w ≤ 10000) : Tame (.list [a, b, c]) := (in_lst (ps := [a, b, c]) (n := 3) (k := 2) (w := w) (fun p hp => by
  rcases List.mem_cons.mp hp with rfl | hp
  · exact h1
  · rcases List.mem_cons.mp hp with rfl | hp
    · exact h2
    · rw [List.mem_singleton.mp hp]; exact h3) (Nat.le_refl 3)).tame (by decide) (by omega)
theorem ok_law {ns : List Int} (hl : ns.length ≤ 63) (hb : ∀ z ∈ ns, bits z ≤ 1048576) : Ok (f_law [.ptr 0] [.rol (ns.map D.int)]) fun d _ => d = .bl true := by
  unfold f_law b_law
  simp only [Ok_ok, Ok_bind, Ok_tOf, Ok_tNot, Ok_tAnd, Ok_tOr, Ok_eIf, Ok_andV, Ok_orV, Ok_notV, Ok_chain, Ok_addI, Ok_subI, Ok_mulI, Ok_modI, Ok_divI, Ok_powI, Ok_ltI, Ok_leI, Ok_gtI, Ok_geI, Ok_addT, Ok_intI, Ok_intB, Ok_boolI, Ok_abs, Ok_lenT, Ok_tupleT, Ok_listT, Ok_ixT, Ok_slT, Ok_revT, Ok_dict0, Ok_dict1C, Ok_iAny, Ok_rngM1, Ok_rngM2, OkS_asgSub, Ok_neS, Ok_eqS, OkS_seq, OkS_pass, OkS_ret, OkS_retN, OkS_drop, OkS_set, OkS_par, OkS_if, Ok_nil, Ok_cons, Ok_bin, Ok_eC, Ok_call, Ok_fn1, Ok_fnK, Ok_tup, Ok_lst, Ok_isi, Ok_sl, Ok_pNone, Ok_pSome, Ok_neg, Ok_rev, Ok_rg1, Ok_comp, Ok_var, Ok_body, List.map_cons, List.map_nil, List.replicate_succ, List.replicate_zero, List.length_cons, List.length_nil, Nat.reduceSub, Nat.reduceAdd, List.cons_append, List.nil_append, List.getElem?_cons_succ, List.getElem?_cons_zero, List.set_cons_succ, List.set_cons_zero, Option.some.injEq, exists_eq_left', exists_eq_left, D.bl.injEq, D.int.injEq, List.cons.injEq, true_and, and_true, pickL, wipeE, List.map, Ok_if, ex2]
  refine ok_deck hl hb fun S p hp hd => ?_
  simp only [Ok_ok, Ok_bind, Ok_tOf, Ok_tNot, Ok_tAnd, Ok_tOr, Ok_eIf, Ok_andV, Ok_orV, Ok_notV, Ok_chain, Ok_addI, Ok_subI, Ok_mulI, Ok_modI, Ok_divI, Ok_powI, Ok_ltI, Ok_leI, Ok_gtI, Ok_geI, Ok_addT, Ok_intI, Ok_intB, Ok_boolI, Ok_abs, Ok_lenT, Ok_tupleT, Ok_listT, Ok_ixT, Ok_slT, Ok_revT, Ok_dict0, Ok_dict1C, Ok_iAny, Ok_rngM1, Ok_rngM2, OkS_asgSub, Ok_neS, Ok_eqS, OkS_seq, OkS_pass, OkS_ret, OkS_retN, OkS_drop, OkS_set, OkS_par, OkS_if, Ok_nil, Ok_cons, Ok_bin, Ok_eC, Ok_call, Ok_fn1, Ok_fnK, Ok_tup, Ok_lst, Ok_isi, Ok_sl, Ok_pNone, Ok_pSome, Ok_neg, Ok_rev, Ok_rg1, OkS_for, Ok_comp, Ok_var, Ok_body, List.map_cons, List.map_nil, List.replicate_succ, List.replicate_zero, List.length_cons, List.length_nil, Nat.reduceSub, Nat.reduceAdd, List.cons_append, List.nil_append, List.getElem?_cons_succ, List.getElem?_cons_zero, List.set_cons_succ, List.set_cons_zero, Option.some.injEq, exists_eq_left', exists_eq_left, D.bl.injEq, D.int.injEq, List.cons.injEq, true_and, and_true, pickL, wipeE, List.map, Ok_if, ex2]
  refine ⟨⟨⟨by decide, by decide⟩, by decide, by decide⟩, ?_⟩
  refine forM_inv (fun xs ρ S' => (∀ x ∈ xs, ∃ h : Nat, x = .int h ∧ h ≤ 5) ∧ (∃ o2 o3 o4 o5 o6 o7 o8 o9 o10, ρ = [some (.ptr 0), some (.ptr p), o2, o3, o4, o5, o6, o7, o8, o9, o10]) ∧ ∃ t, DeckOk S' p t ∧ t + 20 * xs.length ≤ 1000) ?_ ?_ _ _ _ ?_
  · rintro x xs ρ S1 ⟨hx, ⟨o2, o3, o4, o5, o6, o7, o8, o9, o10, rfl⟩, t, hd, ht⟩
    obtain ⟨h, rfl, hh⟩ := hx x List.mem_cons_self
    rw [List.length_cons] at ht
    have hp1 := hd.lt
    simp only [Ok_ok, Ok_bind, Ok_tOf, Ok_tNot, Ok_tAnd, Ok_tOr, Ok_eIf, Ok_andV, Ok_orV, Ok_notV, Ok_chain, Ok_addI, Ok_subI, Ok_mulI, Ok_modI, Ok_divI, Ok_powI, Ok_ltI, Ok_leI, Ok_gtI, Ok_geI, Ok_addT, Ok_intI, Ok_intB, Ok_boolI, Ok_abs, Ok_lenT, Ok_tupleT, Ok_listT, Ok_ixT, Ok_slT, Ok_revT, Ok_dict0, Ok_dict1C, Ok_iAny, Ok_rngM1, Ok_rngM2, OkS_asgSub, Ok_neS, Ok_eqS, OkS_seq, OkS_pass, OkS_ret, OkS_retN, OkS_drop, OkS_set, OkS_par, OkS_if, Ok_nil, Ok_cons, Ok_bin, Ok_eC, Ok_call, Ok_fn1, Ok_fnK, Ok_tup, Ok_lst, Ok_isi, Ok_sl, Ok_pNone, Ok_pSome, Ok_neg, Ok_rev, Ok_rg1, Ok_comp, Ok_var, Ok_body, List.map_cons, List.map_nil, List.replicate_succ, List.replicate_zero, List.length_cons, List.length_nil, Nat.reduceSub, Nat.reduceAdd, List.cons_append, List.nil_append, List.getElem?_cons_succ, List.getElem?_cons_zero, List.set_cons_succ, List.set_cons_zero, Option.some.injEq, exists_eq_left', exists_eq_left, D.bl.injEq, D.int.injEq, List.cons.injEq, true_and, and_true, pickL, wipeE, List.map, Ok_if, ex2]
    refine ok_law_groups (by omega) fun S2 n g2 hn hS2 => ?_
    refine ok_groups (by omega) fun S3 g3 => ?_
    try simp only [Ok_ok, Ok_bind, Ok_tOf, Ok_tNot, Ok_tAnd, Ok_tOr, Ok_eIf, Ok_andV, Ok_orV, Ok_notV, Ok_chain, Ok_addI, Ok_subI, Ok_mulI, Ok_modI, Ok_divI, Ok_powI, Ok_ltI, Ok_leI, Ok_gtI, Ok_geI, Ok_addT, Ok_intI, Ok_intB, Ok_boolI, Ok_abs, Ok_lenT, Ok_tupleT, Ok_listT, Ok_ixT, Ok_slT, Ok_revT, Ok_dict0, Ok_dict1C, Ok_iAny, Ok_rngM1, Ok_rngM2, OkS_asgSub, Ok_neS, Ok_eqS, OkS_seq, OkS_pass, OkS_ret, OkS_retN, OkS_drop, OkS_set, OkS_par, OkS_if, Ok_nil, Ok_cons, Ok_bin, Ok_eC, Ok_call, Ok_fn1, Ok_fnK, Ok_tup, Ok_lst, Ok_isi, Ok_sl, Ok_pNone, Ok_pSome, Ok_neg, Ok_rev, Ok_rg1, Ok_comp, Ok_var, Ok_body, List.map_cons, List.map_nil, List.replicate_succ, List.replicate_zero, List.length_cons, List.length_nil, Nat.reduceSub, Nat.reduceAdd, List.cons_append, List.nil_append, List.getElem?_cons_succ, List.getElem?_cons_zero, List.set_cons_succ, List.set_cons_zero, Option.some.injEq, exists_eq_left', exists_eq_left, D.bl.injEq, D.int.injEq, List.cons.injEq, true_and, and_true, pickL, wipeE, List.map, Ok_if, ex2]
    refine ok_groups (by omega) fun S4 g4 => ?_
    try simp only [Ok_ok, Ok_bind, Ok_tOf, Ok_tNot, Ok_tAnd, Ok_tOr, Ok_eIf, Ok_andV, Ok_orV, Ok_notV, Ok_chain, Ok_addI, Ok_subI, Ok_mulI, Ok_modI, Ok_divI, Ok_powI, Ok_ltI, Ok_leI, Ok_gtI, Ok_geI, Ok_addT, Ok_intI, Ok_intB, Ok_boolI, Ok_abs, Ok_lenT, Ok_tupleT, Ok_listT, Ok_ixT, Ok_slT, Ok_revT, Ok_dict0, Ok_dict1C, Ok_iAny, Ok_rngM1, Ok_rngM2, OkS_asgSub, Ok_neS, Ok_eqS, OkS_seq, OkS_pass, OkS_ret, OkS_retN, OkS_drop, OkS_set, OkS_par, OkS_if, Ok_nil, Ok_cons, Ok_bin, Ok_eC, Ok_call, Ok_fn1, Ok_fnK, Ok_tup, Ok_lst, Ok_isi, Ok_sl, Ok_pNone, Ok_pSome, Ok_neg, Ok_rev, Ok_rg1, Ok_comp, Ok_var, Ok_body, List.map_cons, List.map_nil, List.replicate_succ, List.replicate_zero, List.length_cons, List.length_nil, Nat.reduceSub, Nat.reduceAdd, List.cons_append, List.nil_append, List.getElem?_cons_succ, List.getElem?_cons_zero, List.set_cons_succ, List.set_cons_zero, Option.some.injEq, exists_eq_left', exists_eq_left, D.bl.injEq, D.int.injEq, List.cons.injEq, true_and, and_true, pickL, wipeE, List.map, Ok_if, ex2]
    refine ⟨by decide, ?_⟩
    have su := upto_small hh
    have iu := in_qT su
    refine Ok_repr (deep_list (k := 39) (get_last _ _) (mapO_two (deep_qT _ 36 _) (deep_qT _ 36 _))) (tame_two iu iu (by decide)) ?_
    rw [Ok_tupleL (.inl (ga _ ((g3.trans g4).get hS2 nf)))]
    refine ⟨by decide, ?_⟩
    rw [Ok_mulL (get_last _ _)]
    refine ⟨⟨by decide, by decide, by show 1 * 2 ≤ sizeLine; decide⟩, ?_⟩
    refine Ok_repr (deep_list (k := 39) (ds := [_, _]) (get_last _ _) (mapO_two (deep_qT _ 36 _) (deep_qT _ 36 _))) (tame_two iu iu (by decide)) ?_
    rw [Ok_neS]
    refine ⟨_, rfl, ?_⟩
    rw [if_neg (by simp)]
    have g5 : Gr0 S2 (S4 ++ [Cell.lst [D.tup ((partsI (upto h)).map tupI), D.tup ((partsI (upto h)).map tupI)]] ++ [Cell.lst [D.tup ((partsI (upto h)).map tupI)]] ++ [Cell.lst (List.replicate (Int.toNat 2) [D.tup ((partsI (upto h)).map tupI)]).flatten]) :=
      (g3.trans g4).trans (((Gr.app _).trans (Gr.app _)).trans (Gr.app _))
    generalize S4 ++ [Cell.lst [D.tup ((partsI (upto h)).map tupI), D.tup ((partsI (upto h)).map tupI)]] ++ [Cell.lst [D.tup ((partsI (upto h)).map tupI)]] ++ [Cell.lst (List.replicate (Int.toNat 2) [D.tup ((partsI (upto h)).map tupI)]).flatten] = S5 at *
    have np : n ≠ p := by omega
    refine ok_law_group (hd.gr (g2.trans g5)) (by omega) hh fun S6 l hl hd6 g6 => ?_
    have hS6 := g6.get (g5.get hS2 nf) np
    have sl := su.mem hl
    have il := in_qT sl
    have i0 : In 2 8192 (qT [[]]) := by
      have := in_qT (ns := []) ⟨by decide, fun x hx => by cases hx⟩
      rw [partsI_nil] at this
      exact this
    have l10 : l.length ≤ 10 := sl.g.1
    refine ok_parts (.inl rfl) l10 fun S7 g7 => ?_
    refine ok_parts (.inl rfl) l10 fun S8 g8 => ?_
    refine ⟨by decide, ok_parts (ns := []) (.inl rfl) (by decide) fun S9 g9 => ?_⟩
    rw [partsI_nil]
    refine ⟨by decide, ?_⟩
    refine Ok_repr (deep_list (k := 39) (get_last _ _) (mapO_three (deep_qT _ 36 _) (deep_qT _ 36 _) (deep_qT _ 36 _))) (tame_three il il i0 (by decide)) ?_
    refine ok_law_parts (.inl rfl) l10 fun S10 n10 g10 hn10 hS10 => ?_
    rw [Ok_tupleL (.inl hS10)]
    refine ⟨by decide, ?_⟩
    rw [Ok_mulL (get_last _ _)]
    refine ⟨⟨by decide, by decide, by show 1 * 2 ≤ sizeLine; decide⟩, by decide, by decide, by decide, ?_⟩
    rw [Ok_addL (ga _ (get_last _ _)) (get_last _ _)]
    refine ⟨by show 2 + 1 ≤ sizeLine; decide, ?_⟩
    refine Ok_repr (deep_list (k := 39) (ds := [_, _, _]) (get_last _ _) (mapO_three (deep_qT _ 36 _) (deep_qT _ 36 _) (deep_qT _ 36 [[]]))) (tame_three il il i0 (by decide)) ?_
    rw [Ok_neS]
    refine ⟨_, rfl, ?_⟩
    rw [if_neg (by simp)]
    have g11 : Gr0 S6 (S10 ++ [Cell.lst [D.tup ((partsI l).map tupI)]] ++ [Cell.lst (List.replicate (Int.toNat 2) [D.tup ((partsI l).map tupI)]).flatten] ++ [Cell.lst [D.tup [D.tup []]]] ++
        [Cell.lst ((List.replicate (Int.toNat 2) [D.tup ((partsI l).map tupI)]).flatten ++ [D.tup [D.tup []]])]) :=
      ((((g7.trans g8).trans g9).trans (Gr.app _)).trans g10).trans ((((Gr.app _).trans (Gr.app _)).trans (Gr.app _)).trans (Gr.app _))
    generalize S10 ++ [Cell.lst [D.tup ((partsI l).map tupI)]] ++ [Cell.lst (List.replicate (Int.toNat 2) [D.tup ((partsI l).map tupI)]).flatten] ++ [Cell.lst [D.tup [D.tup []]]] ++
        [Cell.lst ((List.replicate (Int.toNat 2) [D.tup ((partsI l).map tupI)]).flatten ++ [D.tup [D.tup []]])] = S11 at *
    have hS11 := g11.get hS6 nf
    have hd11 := hd6.gr g11
    have hne : (partsI (upto h)).map tupI ≠ [] := by
      intro e
      have := congrArg List.length e
      rw [List.length_map, partsI_len] at this
      have pos : 0 < 2 ^ (upto h).length := Nat.two_pow_pos _
      simp at this
    obtain ⟨dl, hdl, hat⟩ := atD_last hne
    obtain ⟨l2, hl2, rfl⟩ := List.mem_map.mp hdl
    rw [Ok_ixL (.inl hS11)]
    refine ⟨_, hat, ?_⟩
    rw [Ok_ixL (.inl hS11)]
    refine ⟨_, hat, ?_⟩
    have sl2 := (su.mem hl2).g
    refine ⟨by decide, ?_⟩
    rw [show tupI l2 = D.tup (l2.map D.int) from rfl, Ok_addT]
    refine ⟨by have := sl2.1; have := big1000; rw [List.length_map]; show _ + 1 ≤ _; omega, by decide, by decide, by decide, by decide, by decide, by decide, ?_⟩
    simp only [Ok_ok, Ok_bind, Ok_tOf, Ok_tNot, Ok_tAnd, Ok_tOr, Ok_eIf, Ok_andV, Ok_orV, Ok_notV, Ok_chain, Ok_addI, Ok_subI, Ok_mulI, Ok_modI, Ok_divI, Ok_powI, Ok_ltI, Ok_leI, Ok_gtI, Ok_geI, Ok_addT, Ok_intI, Ok_intB, Ok_boolI, Ok_abs, Ok_lenT, Ok_tupleT, Ok_listT, Ok_ixT, Ok_slT, Ok_revT, Ok_dict0, Ok_dict1C, Ok_iAny, Ok_rngM1, Ok_rngM2, OkS_asgSub, Ok_neS, Ok_eqS, OkS_seq, OkS_pass, OkS_ret, OkS_retN, OkS_drop, OkS_set, OkS_par, OkS_if, Ok_nil, Ok_cons, Ok_bin, Ok_eC, Ok_call, Ok_fn1, Ok_fnK, Ok_tup, Ok_lst, Ok_isi, Ok_sl, Ok_pNone, Ok_pSome, Ok_neg, Ok_rev, Ok_rg1, OkS_for, Ok_comp, Ok_var, Ok_body, List.map_cons, List.map_nil, List.replicate_succ, List.replicate_zero, List.length_cons, List.length_nil, Nat.reduceSub, Nat.reduceAdd, List.cons_append, List.nil_append, List.getElem?_cons_succ, List.getElem?_cons_zero, List.set_cons_succ, List.set_cons_zero, Option.some.injEq, exists_eq_left', exists_eq_left, D.bl.injEq, D.int.injEq, List.cons.injEq, true_and, and_true, pickL, wipeE, List.map, Ok_if, ex2]
    refine ⟨⟨by decide, by decide⟩, ?_⟩
    have p11 := hd11.lt
    have g12 : Gr0 S11 (S11 ++ [Cell.lst [D.int 0]] ++ [Cell.dct []] ++ [Cell.dct [(Sum.inl 0, D.int 0)]]) := ((Gr.app _).trans (Gr.app _)).trans (Gr.app _)
    have c0 : (S11 ++ [Cell.lst [D.int 0]] ++ [Cell.dct []] ++ [Cell.dct [(Sum.inl 0, D.int 0)]])[S11.length]? = some (.lst [D.int 0]) := ga _ (ga _ (get_last _ _))
    have c1 : (S11 ++ [Cell.lst [D.int 0]] ++ [Cell.dct []] ++ [Cell.dct [(Sum.inl 0, D.int 0)]])[(S11 ++ [Cell.lst [D.int 0]]).length]? = some (.dct []) := ga _ (get_last _ _)
    have c2 : (S11 ++ [Cell.lst [D.int 0]] ++ [Cell.dct []] ++ [Cell.dct [(Sum.inl 0, D.int 0)]])[(S11 ++ [Cell.lst [D.int 0]] ++ [Cell.dct []]).length]? = some (.dct [(Sum.inl 0, D.int 0)]) := get_last _ _
    have b1 : p < (S11 ++ [Cell.lst [D.int 0]]).length := by rw [List.length_append]; omega
    have b2 : p < (S11 ++ [Cell.lst [D.int 0]] ++ [Cell.dct []]).length := by rw [List.length_append, List.length_append]; omega
    generalize (S11 ++ [Cell.lst [D.int 0]]).length = m1 at *
    generalize (S11 ++ [Cell.lst [D.int 0]] ++ [Cell.dct []]).length = m2 at *
    generalize S11 ++ [Cell.lst [D.int 0]] ++ [Cell.dct []] ++ [Cell.dct [(Sum.inl 0, D.int 0)]] = T at *
    have hd12 := hd11.gr g12
    generalize S11.length = m0 at *
    have pT := hd12.lt
    generalize hA : [tupI l, D.tup (List.map D.int l2), D.tup (List.map D.int l2 ++ [D.int ↑h]), D.tup [D.int ↑h], D.tup [D.int (-1)], D.tup [], D.tup [D.int 0, D.int 0], D.ptr m0, D.ptr m1, D.ptr m2, D.str (Str.ofString "0")] = A at *
    have lenA : A.length = 11 := by rw [← hA]; rfl
    have gL : Gr0 T (T ++ [Cell.lst A]) := Gr.app _
    have cA : (T ++ [Cell.lst A])[T.length]? = some (.lst A) := get_last _ _
    have hdL := hd12.gr gL
    have cL0 := gL.get c0 nf
    have cL1 := gL.get c1 nf
    have cL2 := gL.get c2 nf
    have lenT : T.length < (T ++ [Cell.lst A]).length := by rw [List.length_append]; exact Nat.lt_succ_self _
    generalize T ++ [Cell.lst A] = L at *
    have pL := hdL.lt
    have htt : t + 20 ≤ 1000 := by omega
    refine (compT_inv (Q := fun S' => ∃ acc, S'[L.length]? = some (.lst acc) ∧ (∀ d ∈ acc, Vl (fun k => k = p ∨ k = L.length) S' d) ∧ acc.length = 8 ∧ Gr (· = p) L S' ∧ DeckOk S' p (t + 1 + 2 * acc.length))
      (fun acc rest S' => S'[L.length]? = some (.lst acc) ∧ (∀ d ∈ acc, Vl (fun k => k = p ∨ k = L.length) S' d) ∧ acc.length + rest.length = 8 ∧ Gr (· = p) L S' ∧ DeckOk S' p (t + 1 + 2 * acc.length)) (fun acc xs S h => h.1) ?_ ?_ [] _ _ ?_).mono ?_
    · rintro acc x xs S' ⟨i1, i2, i3, i4, i5⟩
      rw [List.length_cons] at i3
      show Ok (eFn1 2 f__law_bent_group (aCons (eVar 1) (aCons (eVar 4) aNil)) _ S') _
      simp only [Ok_ok, Ok_bind, Ok_tOf, Ok_tNot, Ok_tAnd, Ok_tOr, Ok_eIf, Ok_andV, Ok_orV, Ok_notV, Ok_chain, Ok_addI, Ok_subI, Ok_mulI, Ok_modI, Ok_divI, Ok_powI, Ok_ltI, Ok_leI, Ok_gtI, Ok_geI, Ok_addT, Ok_intI, Ok_intB, Ok_boolI, Ok_abs, Ok_lenT, Ok_tupleT, Ok_listT, Ok_ixT, Ok_slT, Ok_revT, Ok_dict0, Ok_dict1C, Ok_iAny, Ok_rngM1, Ok_rngM2, OkS_asgSub, Ok_neS, Ok_eqS, OkS_seq, OkS_pass, OkS_ret, OkS_retN, OkS_drop, OkS_set, OkS_par, OkS_if, Ok_nil, Ok_cons, Ok_bin, Ok_eC, Ok_call, Ok_fn1, Ok_fnK, Ok_tup, Ok_lst, Ok_isi, Ok_sl, Ok_pNone, Ok_pSome, Ok_neg, Ok_rev, Ok_rg1, OkS_for, Ok_comp, Ok_var, Ok_body, List.map_cons, List.map_nil, List.replicate_succ, List.replicate_zero, List.length_cons, List.length_nil, Nat.reduceSub, Nat.reduceAdd, List.cons_append, List.nil_append, List.getElem?_cons_succ, List.getElem?_cons_zero, List.set_cons_succ, List.set_cons_zero, Option.some.injEq, exists_eq_left', exists_eq_left, D.bl.injEq, D.int.injEq, List.cons.injEq, true_and, and_true, pickL, wipeE, List.map, Ok_if, ex2]
      have lL := lt_of_get i1
      refine ok_bent (q := fun k => k = p ∨ k = L.length) (fun n hn => by omega) (.inl rfl) i5 (by omega) sl.g fun S3 d v hd3 g3 => ?_
      have nL : L.length ≠ p := by omega
      have j1 := g3.get i1 nL
      have put : Gr (fun k => k = p ∨ k = L.length) S3 (S3.set L.length (.lst (acc ++ [d]))) := Gr.put _ (.inr rfl)
      refine ⟨j1, by have := big1000; omega, by rw [List.getElem?_set_self (lt_of_get j1)], fun e he => ?_, by rw [List.length_append, List.length_singleton]; omega, (i4.trans g3).putNew (Nat.le_refl _), ?_⟩
      · rcases List.mem_append.mp he with he | he
        · exact ((i2 e he).mono (g3.weak fun n e => .inl e)).mono put
        · rw [List.mem_singleton.mp he]; exact v.mono put
      · rw [List.length_append, List.length_singleton, show t + 1 + 2 * ((acc.length + 1 : Nat) : Int) = t + 1 + 2 * acc.length + 2 by omega]
        exact hd3.put nL
    · rintro acc S' ⟨i1, i2, i3, i4, i5⟩
      exact ⟨acc, i1, i2, by simpa using i3, i4, i5⟩
    · refine ⟨get_last _ _, fun d hd => (by cases hd), rfl, Gr.app _, ?_⟩
      show DeckOk _ p (t + 1 + 0)
      rw [Int.add_zero]
      exact hdL.gr (Gr.app _)
    rintro _ S14 ⟨acc, i1, i2, i3, i4, i5⟩
    rw [Ok_addL (i4.get cA (by omega)) i1]
    refine ⟨by rw [lenA, i3]; decide, ?_⟩
    refine ⟨_, ⟨_, .inl ⟨get_last _ _, rfl⟩⟩, get_last _ _, ?_⟩
    have valsA : ∀ d ∈ A, Vl (fun k => k = p ∨ k = L.length) L d := by
      have k0 := lt_of_get cL0
      have k1 := lt_of_get cL1
      have k2 := lt_of_get cL2
      have hsm : (h : Int).natAbs < 2 ^ 40 := by
        have : h < 2 ^ 40 := Nat.lt_of_le_of_lt hh (by decide)
        simpa using this
      have at2 := smallG_atoms sl2
      have len2 : (l2.map D.int).length ≤ 10 := by rw [List.length_map]; exact sl2.1
      intro d hd
      rw [← hA] at hd
      simp only [List.mem_cons, List.not_mem_nil, or_false] at hd
      have one : ∀ i : Int, i.natAbs < 2 ^ 40 → ∀ d ∈ [D.int i], AtomD d := fun i hi d hd => by rw [List.mem_singleton.mp hd]; exact hi
      rcases hd with rfl | rfl | rfl | rfl | rfl | rfl | rfl | rfl | rfl | rfl | rfl
      · exact vl_tup (smallG_atoms sl.g) (by rw [List.length_map]; have := sl.g.1; omega)
      · exact vl_tup at2 (by omega)
      · refine vl_tup (fun d hd => ?_) (by rw [List.length_append, List.length_singleton]; omega)
        rcases List.mem_append.mp hd with hd | hd
        · exact at2 d hd
        · exact one _ hsm d hd
      · exact vl_tup (one _ hsm) (by show 1 ≤ 100; decide)
      · exact vl_tup (one _ (by decide)) (by decide)
      · exact vl_tup (fun d hd => by cases hd) (by decide)
      · refine vl_tup (fun d hd => ?_) (by decide)
        rcases List.mem_cons.mp hd with rfl | hd
        · show (0 : Int).natAbs < 2 ^ 40; decide
        · exact one 0 (by decide) d hd
      · exact vl_lst (one 0 (by decide)) (by decide) cL0 (by omega)
      · exact vl_dct0 cL1 (by omega)
      · exact vl_dct cL2 (by omega) ⟨by decide +kernel, by decide +kernel, by decide +kernel, by decide +kernel⟩
      · exact vl_of _ (fun _ => rfl) ⟨by decide +kernel, by decide +kernel, by decide +kernel, by decide +kernel⟩
    have nL : L.length ≠ p := by omega
    have valsS : ∀ d ∈ A ++ acc, Vl (fun k => k = p ∨ k = L.length) (S14 ++ [Cell.lst (A ++ acc)]) d := fun d hd => by
      rcases List.mem_append.mp hd with hd | hd
      · exact ((valsA d hd).mono (i4.weak fun n e => .inl e)).mono (Gr.app _)
      · exact (i2 d hd).mono (Gr.app _)
    have hdS := i5.gr (Gr.app (q := fun _ => False) [Cell.lst (A ++ acc)])
    have cS : (S14 ++ [Cell.lst (A ++ acc)])[S14.length]? = some (.lst (A ++ acc)) := get_last _ _
    generalize S14 ++ [Cell.lst (A ++ acc)] = SL at *
    refine forM_inv (fun ys ρ S' => (∀ y ∈ ys, Vl (fun k => k = p ∨ k = L.length) S' y) ∧ Gr0 SL S' ∧ ∃ a6 a7 a8 a9 a10, ρ = [some (.ptr 0), some (.ptr p), some (.int h), some (.ptr n), some (tupI l), some (.ptr T.length), a6, a7, a8, a9, a10]) ?_ ?_ _ _ _ ⟨valsS, Gr.refl, _, _, _, _, _, rfl⟩
    · rintro y ys ρ S' ⟨hy, gy, a6, a7, a8, a9, a10, rfl⟩
      have vy := hy y List.mem_cons_self
      obtain ⟨py, ty, dy⟩ := vy.all
      simp only [Ok_ok, Ok_bind, Ok_tOf, Ok_tNot, Ok_tAnd, Ok_tOr, Ok_eIf, Ok_andV, Ok_orV, Ok_notV, Ok_chain, Ok_addI, Ok_subI, Ok_mulI, Ok_modI, Ok_divI, Ok_powI, Ok_ltI, Ok_leI, Ok_gtI, Ok_geI, Ok_addT, Ok_intI, Ok_intB, Ok_boolI, Ok_abs, Ok_lenT, Ok_tupleT, Ok_listT, Ok_ixT, Ok_slT, Ok_revT, Ok_dict0, Ok_dict1C, Ok_iAny, Ok_rngM1, Ok_rngM2, OkS_asgSub, Ok_neS, Ok_eqS, OkS_seq, OkS_pass, OkS_ret, OkS_retN, OkS_drop, OkS_set, OkS_par, OkS_if, Ok_nil, Ok_cons, Ok_bin, Ok_eC, Ok_call, Ok_fn1, Ok_fnK, Ok_tup, Ok_lst, Ok_isi, Ok_sl, Ok_pNone, Ok_pSome, Ok_neg, Ok_rev, Ok_rg1, OkS_for, Ok_comp, Ok_var, Ok_body, List.map_cons, List.map_nil, List.replicate_succ, List.replicate_zero, List.length_cons, List.length_nil, Nat.reduceSub, Nat.reduceAdd, List.cons_append, List.nil_append, List.getElem?_cons_succ, List.getElem?_cons_zero, List.set_cons_succ, List.set_cons_zero, Option.some.injEq, exists_eq_left', exists_eq_left, D.bl.injEq, D.int.injEq, List.cons.injEq, true_and, and_true, pickL, wipeE, List.map, Ok_if, ex2]
      refine Ok_repr (dy S' Gr.refl) ty ?_
      refine ok_law_is_group vy.kn.1 vy.kn.2 fun S20 g20 => ?_
      have v20 := vy.mono (g20.weak0)
      refine ok_is_group v20.kn.1 (ok_is_group v20.kn.1 ?_)
      try simp only [Ok_ok, Ok_bind, Ok_tOf, Ok_tNot, Ok_tAnd, Ok_tOr, Ok_eIf, Ok_andV, Ok_orV, Ok_notV, Ok_chain, Ok_addI, Ok_subI, Ok_mulI, Ok_modI, Ok_divI, Ok_powI, Ok_ltI, Ok_leI, Ok_gtI, Ok_geI, Ok_addT, Ok_intI, Ok_intB, Ok_boolI, Ok_abs, Ok_lenT, Ok_tupleT, Ok_listT, Ok_ixT, Ok_slT, Ok_revT, Ok_dict0, Ok_dict1C, Ok_iAny, Ok_rngM1, Ok_rngM2, OkS_asgSub, Ok_neS, Ok_eqS, OkS_seq, OkS_pass, OkS_ret, OkS_retN, OkS_drop, OkS_set, OkS_par, OkS_if, Ok_nil, Ok_cons, Ok_bin, Ok_eC, Ok_call, Ok_fn1, Ok_fnK, Ok_tup, Ok_lst, Ok_isi, Ok_sl, Ok_pNone, Ok_pSome, Ok_neg, Ok_rev, Ok_rg1, OkS_for, Ok_comp, Ok_var, Ok_body, List.map_cons, List.map_nil, List.replicate_succ, List.replicate_zero, List.length_cons, List.length_nil, Nat.reduceSub, Nat.reduceAdd, List.cons_append, List.nil_append, List.getElem?_cons_succ, List.getElem?_cons_zero, List.set_cons_succ, List.set_cons_zero, Option.some.injEq, exists_eq_left', exists_eq_left, D.bl.injEq, D.int.injEq, List.cons.injEq, true_and, and_true, pickL, wipeE, List.map, Ok_if, ex2]
      refine ⟨by decide, ?_⟩
      refine Ok_repr (deep_bools (get_last _ _)) (tame_bools _ _) ?_
      refine ⟨by decide, ?_⟩
      refine Ok_repr (deep_bools (get_last _ _)) (tame_bools _ _) ?_
      rw [Ok_neS]
      refine ⟨_, rfl, ?_⟩
      rw [if_neg (by simp)]
      have gz : Gr0 S' (S20 ++ [Cell.lst [D.bl (isGroupB h y), D.bl (isGroupB h y)]] ++ [Cell.lst [D.bl (isGroupB h y), D.bl (isGroupB h y)]]) := g20.trans ((Gr.app _).trans (Gr.app _))
      refine Ok_repr (dy _ gz) ty ?_
      rw [Ok_neS]
      refine ⟨_, rfl, ?_⟩
      rw [if_neg (by simp)]
      exact ⟨(gy.trans gz).get cS nf, fun z hz => (hy z (List.mem_cons_of_mem _ hz)).mono gz.weak0, gy.trans gz, _, _, _, _, _, rfl, rfl, rfl, rfl, rfl⟩
    · rintro ρ S' ⟨_, gy, a6, a7, a8, a9, a10, rfl⟩
      exact ⟨fun x hm => hx x (List.mem_cons_of_mem _ hm), ⟨_, _, _, _, _, _, _, _, _, rfl⟩, _, hdS.gr gy, by rw [i3]; omega⟩
  · rintro ρ S1 ⟨_, ⟨o2, o3, o4, o5, o6, o7, o8, o9, o10, rfl⟩, t, hd, ht⟩
    exact trivial
  · refine ⟨fun x hx => ?_, ⟨_, _, _, _, _, _, _, _, _, rfl⟩, 0, hd, by decide⟩
    obtain ⟨i, hi, rfl⟩ := mem_range hx
    refine ⟨i + 1, ?_, ?_⟩
    · rw [show (1 : Int) + i = ((i + 1 : Nat) : Int) by omega]
    · omega
theorem law_true : LawTrue 63 f_law := lawTrue_of fun ns h1 h2 => ok_law h1 h2
end K01

namespace K01
open PySem PySem.Spec PyProof.Rows L2 RL
theorem y_is_whole : ByPos "is_whole" s_is_whole p_is_whole := fun _ _ _ _ _ _ us hl => match us, hl with | [_, _, _], _ => rfl
theorem y_is_group : ByPos "is_group" s_is_group p_is_group := fun _ _ _ _ _ _ us hl => match us, hl with | [_, _], _ => rfl
theorem y_parts : ByPos "parts" s_parts p_parts := fun _ _ _ _ _ _ us hl => match us, hl with | [_], _ => rfl
theorem y_groups : ByPos "groups" s_groups p_groups := fun _ _ _ _ _ _ us hl => match us, hl with | [_], _ => rfl
theorem y__law_deck : ByPos "_law_deck" s__law_deck p__law_deck := fun _ _ _ _ _ _ us hl => match us, hl with | [_], _ => rfl
theorem y__law_take : ByPos "_law_take" s__law_take p__law_take := fun _ _ _ _ _ _ us hl => match us, hl with | [_, _], _ => rfl
theorem y__law_pick : ByPos "_law_pick" s__law_pick p__law_pick := fun _ _ _ _ _ _ us hl => match us, hl with | [_, _], _ => rfl
theorem y__law_odd : ByPos "_law_odd" s__law_odd p__law_odd := fun _ _ _ _ _ _ us hl => match us, hl with | [_], _ => rfl
theorem y__law_parts : ByPos "_law_parts" s__law_parts p__law_parts := fun _ _ _ _ _ _ us hl => match us, hl with | [_], _ => rfl
theorem y__law_groups : ByPos "_law_groups" s__law_groups p__law_groups := fun _ _ _ _ _ _ us hl => match us, hl with | [_], _ => rfl
theorem y__law_group : ByPos "_law_group" s__law_group p__law_group := fun _ _ _ _ _ _ us hl => match us, hl with | [_, _], _ => rfl
theorem y__law_is_whole : ByPos "_law_is_whole" s__law_is_whole p__law_is_whole := fun _ _ _ _ _ _ us hl => match us, hl with | [_, _, _], _ => rfl
theorem y__law_is_group : ByPos "_law_is_group" s__law_is_group p__law_is_group := fun _ _ _ _ _ _ us hl => match us, hl with | [_, _], _ => rfl
theorem y__law_bent_group : ByPos "_law_bent_group" s__law_bent_group p__law_bent_group := fun _ _ _ _ _ _ us hl => match us, hl with | [_, _], _ => rfl
theorem y_law : ByPos "law" s_law p_law := fun _ _ _ _ _ _ us hl => match us, hl with | [_], _ => rfl
theorem all_mk {P : Program} {w : World} {K : PySem.W.Frag} {h : Heap} {mg : Str → Option Value} {fa : Addr} (X : K.In h) (G : h.Ns mainGlobals mg) (hfa : mg "law" = some (.ref fa))
    {f0 : Addr} {oc0 kV0 dc0 pm0 cd0 ct0 : Value} {od0 an0 : Option Addr} {sl0 : Array (Option Value)}
    (a0 : PySem.W.nsIn K mainGlobals "is_whole" = some (some (.ref f0))) (l0 : K.lookup f0 = some ⟨oc0, od0, .func (PySem.W.fnOf "is_whole" "is_whole" (defArgs s_is_whole) (defBody s_is_whole) (defScope s_is_whole) .none kV0 dc0 pm0 an0 cd0 ct0), sl0⟩) (c0 : PySem.W.codeIn K cd0 "is_whole" = true) (k0 : PySem.W.keepIn K (.ref f0) = true)
    {f1 : Addr} {oc1 kV1 dc1 pm1 cd1 ct1 : Value} {od1 an1 : Option Addr} {sl1 : Array (Option Value)}
    (a1 : PySem.W.nsIn K mainGlobals "is_group" = some (some (.ref f1))) (l1 : K.lookup f1 = some ⟨oc1, od1, .func (PySem.W.fnOf "is_group" "is_group" (defArgs s_is_group) (defBody s_is_group) (defScope s_is_group) .none kV1 dc1 pm1 an1 cd1 ct1), sl1⟩) (c1 : PySem.W.codeIn K cd1 "is_group" = true) (k1 : PySem.W.keepIn K (.ref f1) = true)
    {f2 : Addr} {oc2 kV2 dc2 pm2 cd2 ct2 : Value} {od2 an2 : Option Addr} {sl2 : Array (Option Value)}
    (a2 : PySem.W.nsIn K mainGlobals "parts" = some (some (.ref f2))) (l2 : K.lookup f2 = some ⟨oc2, od2, .func (PySem.W.fnOf "parts" "parts" (defArgs s_parts) (defBody s_parts) (defScope s_parts) .none kV2 dc2 pm2 an2 cd2 ct2), sl2⟩) (c2 : PySem.W.codeIn K cd2 "parts" = true) (k2 : PySem.W.keepIn K (.ref f2) = true)
    {f3 : Addr} {oc3 kV3 dc3 pm3 cd3 ct3 : Value} {od3 an3 : Option Addr} {sl3 : Array (Option Value)}
    (a3 : PySem.W.nsIn K mainGlobals "groups" = some (some (.ref f3))) (l3 : K.lookup f3 = some ⟨oc3, od3, .func (PySem.W.fnOf "groups" "groups" (defArgs s_groups) (defBody s_groups) (defScope s_groups) .none kV3 dc3 pm3 an3 cd3 ct3), sl3⟩) (c3 : PySem.W.codeIn K cd3 "groups" = true) (k3 : PySem.W.keepIn K (.ref f3) = true)
    {f4 : Addr} {oc4 kV4 dc4 pm4 cd4 ct4 : Value} {od4 an4 : Option Addr} {sl4 : Array (Option Value)}
    (a4 : PySem.W.nsIn K mainGlobals "_law_deck" = some (some (.ref f4))) (l4 : K.lookup f4 = some ⟨oc4, od4, .func (PySem.W.fnOf "_law_deck" "_law_deck" (defArgs s__law_deck) (defBody s__law_deck) (defScope s__law_deck) .none kV4 dc4 pm4 an4 cd4 ct4), sl4⟩) (c4 : PySem.W.codeIn K cd4 "_law_deck" = true) (k4 : PySem.W.keepIn K (.ref f4) = true)
    {f5 : Addr} {oc5 kV5 dc5 pm5 cd5 ct5 : Value} {od5 an5 : Option Addr} {sl5 : Array (Option Value)}
    (a5 : PySem.W.nsIn K mainGlobals "_law_take" = some (some (.ref f5))) (l5 : K.lookup f5 = some ⟨oc5, od5, .func (PySem.W.fnOf "_law_take" "_law_take" (defArgs s__law_take) (defBody s__law_take) (defScope s__law_take) .none kV5 dc5 pm5 an5 cd5 ct5), sl5⟩) (c5 : PySem.W.codeIn K cd5 "_law_take" = true) (k5 : PySem.W.keepIn K (.ref f5) = true)
    {f6 : Addr} {oc6 kV6 dc6 pm6 cd6 ct6 : Value} {od6 an6 : Option Addr} {sl6 : Array (Option Value)}
    (a6 : PySem.W.nsIn K mainGlobals "_law_pick" = some (some (.ref f6))) (l6 : K.lookup f6 = some ⟨oc6, od6, .func (PySem.W.fnOf "_law_pick" "_law_pick" (defArgs s__law_pick) (defBody s__law_pick) (defScope s__law_pick) .none kV6 dc6 pm6 an6 cd6 ct6), sl6⟩) (c6 : PySem.W.codeIn K cd6 "_law_pick" = true) (k6 : PySem.W.keepIn K (.ref f6) = true)
    {f7 : Addr} {oc7 kV7 dc7 pm7 cd7 ct7 : Value} {od7 an7 : Option Addr} {sl7 : Array (Option Value)}
    (a7 : PySem.W.nsIn K mainGlobals "_law_odd" = some (some (.ref f7))) (l7 : K.lookup f7 = some ⟨oc7, od7, .func (PySem.W.fnOf "_law_odd" "_law_odd" (defArgs s__law_odd) (defBody s__law_odd) (defScope s__law_odd) .none kV7 dc7 pm7 an7 cd7 ct7), sl7⟩) (c7 : PySem.W.codeIn K cd7 "_law_odd" = true) (k7 : PySem.W.keepIn K (.ref f7) = true)
    {f8 : Addr} {oc8 kV8 dc8 pm8 cd8 ct8 : Value} {od8 an8 : Option Addr} {sl8 : Array (Option Value)}
    (a8 : PySem.W.nsIn K mainGlobals "_law_parts" = some (some (.ref f8))) (l8 : K.lookup f8 = some ⟨oc8, od8, .func (PySem.W.fnOf "_law_parts" "_law_parts" (defArgs s__law_parts) (defBody s__law_parts) (defScope s__law_parts) .none kV8 dc8 pm8 an8 cd8 ct8), sl8⟩) (c8 : PySem.W.codeIn K cd8 "_law_parts" = true) (k8 : PySem.W.keepIn K (.ref f8) = true)
    {f9 : Addr} {oc9 kV9 dc9 pm9 cd9 ct9 : Value} {od9 an9 : Option Addr} {sl9 : Array (Option Value)}
    (a9 : PySem.W.nsIn K mainGlobals "_law_groups" = some (some (.ref f9))) (l9 : K.lookup f9 = some ⟨oc9, od9, .func (PySem.W.fnOf "_law_groups" "_law_groups" (defArgs s__law_groups) (defBody s__law_groups) (defScope s__law_groups) .none kV9 dc9 pm9 an9 cd9 ct9), sl9⟩) (c9 : PySem.W.codeIn K cd9 "_law_groups" = true) (k9 : PySem.W.keepIn K (.ref f9) = true)
    {f10 : Addr} {oc10 kV10 dc10 pm10 cd10 ct10 : Value} {od10 an10 : Option Addr} {sl10 : Array (Option Value)}
    (a10 : PySem.W.nsIn K mainGlobals "_law_group" = some (some (.ref f10))) (l10 : K.lookup f10 = some ⟨oc10, od10, .func (PySem.W.fnOf "_law_group" "_law_group" (defArgs s__law_group) (defBody s__law_group) (defScope s__law_group) .none kV10 dc10 pm10 an10 cd10 ct10), sl10⟩) (c10 : PySem.W.codeIn K cd10 "_law_group" = true) (k10 : PySem.W.keepIn K (.ref f10) = true)
    {f11 : Addr} {oc11 kV11 dc11 pm11 cd11 ct11 : Value} {od11 an11 : Option Addr} {sl11 : Array (Option Value)}
    (a11 : PySem.W.nsIn K mainGlobals "_law_is_whole" = some (some (.ref f11))) (l11 : K.lookup f11 = some ⟨oc11, od11, .func (PySem.W.fnOf "_law_is_whole" "_law_is_whole" (defArgs s__law_is_whole) (defBody s__law_is_whole) (defScope s__law_is_whole) .none kV11 dc11 pm11 an11 cd11 ct11), sl11⟩) (c11 : PySem.W.codeIn K cd11 "_law_is_whole" = true) (k11 : PySem.W.keepIn K (.ref f11) = true)
    {f12 : Addr} {oc12 kV12 dc12 pm12 cd12 ct12 : Value} {od12 an12 : Option Addr} {sl12 : Array (Option Value)}
    (a12 : PySem.W.nsIn K mainGlobals "_law_is_group" = some (some (.ref f12))) (l12 : K.lookup f12 = some ⟨oc12, od12, .func (PySem.W.fnOf "_law_is_group" "_law_is_group" (defArgs s__law_is_group) (defBody s__law_is_group) (defScope s__law_is_group) .none kV12 dc12 pm12 an12 cd12 ct12), sl12⟩) (c12 : PySem.W.codeIn K cd12 "_law_is_group" = true) (k12 : PySem.W.keepIn K (.ref f12) = true)
    {f13 : Addr} {oc13 kV13 dc13 pm13 cd13 ct13 : Value} {od13 an13 : Option Addr} {sl13 : Array (Option Value)}
    (a13 : PySem.W.nsIn K mainGlobals "_law_bent_group" = some (some (.ref f13))) (l13 : K.lookup f13 = some ⟨oc13, od13, .func (PySem.W.fnOf "_law_bent_group" "_law_bent_group" (defArgs s__law_bent_group) (defBody s__law_bent_group) (defScope s__law_bent_group) .none kV13 dc13 pm13 an13 cd13 ct13), sl13⟩) (c13 : PySem.W.codeIn K cd13 "_law_bent_group" = true) (k13 : PySem.W.keepIn K (.ref f13) = true)
    {f14 : Addr} {oc14 kV14 dc14 pm14 cd14 ct14 : Value} {od14 an14 : Option Addr} {sl14 : Array (Option Value)}
    (a14 : PySem.W.nsIn K mainGlobals "law" = some (some (.ref f14))) (l14 : K.lookup f14 = some ⟨oc14, od14, .func (PySem.W.fnOf "law" "law" (defArgs s_law) (defBody s_law) (defScope s_law) .none kV14 dc14 pm14 an14 cd14 ct14), sl14⟩) (c14 : PySem.W.codeIn K cd14 "law" = true) (k14 : PySem.W.keepIn K (.ref f14) = true)
    (z_isinstance : PySem.W.nsIn K mainGlobals "isinstance" = some none)
    (z_int : PySem.W.nsIn K mainGlobals "int" = some none)
    (z_bool : PySem.W.nsIn K mainGlobals "bool" = some none)
    (z_tuple : PySem.W.nsIn K mainGlobals "tuple" = some none)
    (z_sorted : PySem.W.nsIn K mainGlobals "sorted" = some none)
    (z_range : PySem.W.nsIn K mainGlobals "range" = some none)
    (z_len : PySem.W.nsIn K mainGlobals "len" = some none)
    (z_abs : PySem.W.nsIn K mainGlobals "abs" = some none)
    (z_list : PySem.W.nsIn K mainGlobals "list" = some none)
    (z_repr : PySem.W.nsIn K mainGlobals "repr" = some none) :
    ∃ fd : FuncData, (∀ (s : Shared) (v : Value), BindsTo s fd ⟨[v], []⟩ [("_law_script", v)]) ∧ ∀ base : Heap, K.In base → base.Ns mainGlobals mg → FnG P w K mg base 5 fa fd p_law f_law := by
  have e := hfa.symm.trans (PySem.W.mg_of X G a14)
  cases e
  have m_isinstance := PySem.W.mg_none_of X G z_isinstance
  have m_int := PySem.W.mg_none_of X G z_int
  have m_bool := PySem.W.mg_none_of X G z_bool
  have m_tuple := PySem.W.mg_none_of X G z_tuple
  have m_sorted := PySem.W.mg_none_of X G z_sorted
  have m_range := PySem.W.mg_none_of X G z_range
  have m_len := PySem.W.mg_none_of X G z_len
  have m_abs := PySem.W.mg_none_of X G z_abs
  have m_list := PySem.W.mg_none_of X G z_list
  have m_repr := PySem.W.mg_none_of X G z_repr
  have u0 := fun_mk (st := s_is_whole) l0 c0 k0
  have u1 := fun_mk (st := s_is_group) l1 c1 k1
  have u2 := fun_mk (st := s_parts) l2 c2 k2
  have u3 := fun_mk (st := s_groups) l3 c3 k3
  have u4 := fun_mk (st := s__law_deck) l4 c4 k4
  have u5 := fun_mk (st := s__law_take) l5 c5 k5
  have u6 := fun_mk (st := s__law_pick) l6 c6 k6
  have u7 := fun_mk (st := s__law_odd) l7 c7 k7
  have u8 := fun_mk (st := s__law_parts) l8 c8 k8
  have u9 := fun_mk (st := s__law_groups) l9 c9 k9
  have u10 := fun_mk (st := s__law_group) l10 c10 k10
  have u11 := fun_mk (st := s__law_is_whole) l11 c11 k11
  have u12 := fun_mk (st := s__law_is_group) l12 c12 k12
  have u13 := fun_mk (st := s__law_bent_group) l13 c13 k13
  have u14 := fun_mk (st := s_law) l14 c14 k14
  refine ⟨PySem.W.fnOf "law" "law" (defArgs s_law) (defBody s_law) (defScope s_law) .none kV14 dc14 pm14 an14 cd14 ct14, fun s v => .of_eq rfl, fun base _ _ => ?_⟩
  have d_is_whole := known (P := P) (w := w) (base := base) (PySem.W.mg_of X G a0) u0 y_is_whole (g_is_whole m_isinstance m_int m_bool u0)
  have d_is_group := known (P := P) (w := w) (base := base) (PySem.W.mg_of X G a1) u1 y_is_group (g_is_group m_isinstance m_tuple d_is_whole u1)
  have d_parts := known (P := P) (w := w) (base := base) (PySem.W.mg_of X G a2) u2 y_parts (g_parts m_tuple m_sorted u2)
  have d_groups := known (P := P) (w := w) (base := base) (PySem.W.mg_of X G a3) u3 y_groups (g_groups m_tuple m_range d_parts u3)
  have d__law_deck := known (P := P) (w := w) (base := base) (PySem.W.mg_of X G a4) u4 y__law_deck (g__law_deck m_len m_int m_abs u4)
  have d__law_take := known (P := P) (w := w) (base := base) (PySem.W.mg_of X G a5) u5 y__law_take (g__law_take m_int u5)
  have d__law_pick := known (P := P) (w := w) (base := base) (PySem.W.mg_of X G a6) u6 y__law_pick (g__law_pick m_len d__law_take u6)
  have d__law_odd := known (P := P) (w := w) (base := base) (PySem.W.mg_of X G a7) u7 y__law_odd (g__law_odd d__law_pick u7)
  have d__law_parts := known (P := P) (w := w) (base := base) (PySem.W.mg_of X G a8) u8 y__law_parts (g__law_parts m_sorted u8)
  have d__law_groups := known (P := P) (w := w) (base := base) (PySem.W.mg_of X G a9) u9 y__law_groups (g__law_groups m_list m_range d__law_parts u9)
  have d__law_group := known (P := P) (w := w) (base := base) (PySem.W.mg_of X G a10) u10 y__law_group (g__law_group d__law_pick d__law_groups u10)
  have d__law_is_whole := known (P := P) (w := w) (base := base) (PySem.W.mg_of X G a11) u11 y__law_is_whole (g__law_is_whole m_isinstance m_int m_bool u11)
  have d__law_is_group := known (P := P) (w := w) (base := base) (PySem.W.mg_of X G a12) u12 y__law_is_group (g__law_is_group m_isinstance m_tuple m_range m_len d__law_is_whole u12)
  have d__law_bent_group := known (P := P) (w := w) (base := base) (PySem.W.mg_of X G a13) u13 y__law_bent_group (g__law_bent_group m_list m_tuple m_bool d__law_pick d__law_odd u13)
  exact g_law m_range m_repr m_tuple d__law_deck d__law_groups d__law_group d__law_bent_group d__law_is_group d_is_group d_groups d_parts d__law_parts u14
end K01
open PySem PySem.W PyProof.Rows
set_option maxHeartbeats 0 in
theorem PySem.Challenge.cw_clearsheets_k01_groups_and_parts_holds : PySem.Challenge.rw_clearsheets_k01_groups_and_parts.Holds := by
  w_on; o_law; k_head; (case hw => w_witness2)
  k_fill
  refine RL.walkG (l := PySem.Challenge.rw_clearsheets_k01_groups_and_parts) (n := 63) (k := 5) (x := "_law_script") (F := K01.f_law) rfl (by decide) rfl ⟨rfl, by decide, by decide⟩ (fun w h Y => PySem.W.kIn_of Y) ?F K01.law_true
  case F =>
    intro w mg fa h KX G hmg
    refine' K01.all_mk KX G hmg ?a0 ?l0 ?c0 ?k0 ?a1 ?l1 ?c1 ?k1 ?a2 ?l2 ?c2 ?k2 ?a3 ?l3 ?c3 ?k3 ?a4 ?l4 ?c4 ?k4 ?a5 ?l5 ?c5 ?k5 ?a6 ?l6 ?c6 ?k6 ?a7 ?l7 ?c7 ?k7 ?a8 ?l8 ?c8 ?k8 ?a9 ?l9 ?c9 ?k9 ?a10 ?l10 ?c10 ?k10 ?a11 ?l11 ?c11 ?k11 ?a12 ?l12 ?c12 ?k12 ?a13 ?l13 ?c13 ?k13 ?a14 ?l14 ?c14 ?k14 ?z_isinstance ?z_int ?z_bool ?z_tuple ?z_sorted ?z_range ?z_len ?z_abs ?z_list ?z_repr
    (case a0 => k_is); (case l0 => k_is); (case c0 => k_is); (case k0 => k_is); (case a1 => k_is); (case l1 => k_is); (case c1 => k_is); (case k1 => k_is); (case a2 => k_is); (case l2 => k_is); (case c2 => k_is); (case k2 => k_is); (case a3 => k_is); (case l3 => k_is); (case c3 => k_is); (case k3 => k_is); (case a4 => k_is); (case l4 => k_is); (case c4 => k_is); (case k4 => k_is); (case a5 => k_is); (case l5 => k_is); (case c5 => k_is); (case k5 => k_is); (case a6 => k_is); (case l6 => k_is); (case c6 => k_is); (case k6 => k_is); (case a7 => k_is); (case l7 => k_is); (case c7 => k_is); (case k7 => k_is); (case a8 => k_is); (case l8 => k_is); (case c8 => k_is); (case k8 => k_is); (case a9 => k_is); (case l9 => k_is); (case c9 => k_is); (case k9 => k_is); (case a10 => k_is); (case l10 => k_is); (case c10 => k_is); (case k10 => k_is); (case a11 => k_is); (case l11 => k_is); (case c11 => k_is); (case k11 => k_is); (case a12 => k_is); (case l12 => k_is); (case c12 => k_is); (case k12 => k_is); (case a13 => k_is); (case l13 => k_is); (case c13 => k_is); (case k13 => k_is); (case a14 => k_is); (case l14 => k_is); (case c14 => k_is); (case k14 => k_is); (case z_isinstance => k_is); (case z_int => k_is); (case z_bool => k_is); (case z_tuple => k_is); (case z_sorted => k_is); (case z_range => k_is); (case z_len => k_is); (case z_abs => k_is); (case z_list => k_is); (case z_repr => k_is)

